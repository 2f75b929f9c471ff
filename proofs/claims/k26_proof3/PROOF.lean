import PyProof.Rows.All
import Wide.All
import OpenK.AllK
import Wide.FinOn
import Lean
import PyProof.EqAt
import PyProof.EqKinds
import PyProof.TupleCall
import PyProof.DictWalks
import PyProof.ExcAttrAll.ValueError
import PyProof.ExcBaseAll.ValueError
import PyProof.ZipIter
import PyProof.SumWalk
import PyProof.Rows.SortShellK
import PyProof.Rows.SortStr
import PyProof.DictKinds
import PyProof.Rows.CallKwBuiltin
import PyProof.ListRange
import PySem.Challenge.RW_ownshelf_k26_sets_too_great
set_option Elab.async false
set_option linter.all false
set_option maxRecDepth 100000
set_option maxHeartbeats 8000000
set_option compiler.extract_closed false
set_option compiler.reuse false
set_option bootstrap.genMatcherCode false
abbrev zFr:=PySem.W.Frag
abbrev zLA:=List (PySem.Str×PySem.Addr)
abbrev zAO:=List (PySem.Addr×PySem.Obj)
abbrev zVP:=PySem.Value->PySem.Shared->Prop
abbrev zMg:=PySem.Str->Option PySem.Value
abbrev z5n:=@List.length_append
abbrev z5o:=@PySem.wpAny_bind
abbrev z5p:=@Nat.le_refl
abbrev z5q:=@Nat.lt_of_lt_of_le
abbrev z5r:=@List.pairwise_append
abbrev z5s:=@List.getElem?_eq_some_iff
abbrev z5t:=@PySem.Heap.get?_push_of_some
abbrev z5u:=@List.mem_cons_of_mem
abbrev z5v:=@List.getElem?_eq_getElem
abbrev z5w:=@PyProof.Rows.wpS_bind
abbrev z5x:=@List.map_cons
abbrev z5y:=@List.mem_cons
abbrev z5z:=@List.mem_cons_self
abbrev z50:=@Bool.false_eq_true
abbrev z51:=@List.getElem?_append_right
abbrev z52:=@PySem.wpAny_pure
abbrev z53:=@PyProof.Rows.wpS_pure
abbrev z54:=@decide_eq_false
abbrev z55:=@if_pos
abbrev z56:=@Nat.ne_of_lt
abbrev z57:=@List.mem_append_right
abbrev z58:=@PySem.Heap.lt_size
abbrev z59:=@List.append_assoc
abbrev z6a:=@List.mem_singleton
abbrev z6b:=@decide_eq_true
abbrev z6c:=@if_neg
abbrev z6d:=@List.size_toArray
abbrev z6e:=@List.append_nil
abbrev z6f:=@Nat.le_add_right
abbrev z6g:=@List.getElem_of_mem
abbrev z6h:=@Nat.le_trans
abbrev z6i:=@List.mem_append
abbrev z6j:=@List.mem_of_getElem?
abbrev z6k:=@Array.getElem?_eq_getElem
abbrev z6l:=@List.length_drop
abbrev z6m:=@List.length_take
abbrev z6n:=@List.getElem?_append_left
abbrev z6o:=@PySem.Heap.get?_push_size
abbrev z6p:=@Bool.and_eq_true
abbrev z6q:=@Nat.le_of_ble_eq_true
abbrev z6r:=@List.getElem?_set_self
abbrev z6s:=@List.length_map
abbrev z6t:=@Array.toList_append
abbrev z6u:=@List.getElem?_map
abbrev z6v:=@List.pairwise_cons
abbrev z6w:=@List.mem_append_left
abbrev z6x:=@List.mem_of_mem_take
abbrev z6y:=@List.all_eq_true
abbrev z6z:=@Array.size_push
abbrev z60:=@List.drop_eq_getElem_cons
abbrev z61:=@if_false
abbrev z62:=@Option.some.inj
abbrev z63:=@of_decide_eq_true
abbrev z64:=@Bool.eq_false_iff
abbrev z65:=@Array.getElem?_toList
abbrev z66:=@Nat.zero_le
abbrev z67:=@List.mem_filter
abbrev z68:=@List.getElem?_set_ne
abbrev z69:=@PyProof.Rows.wpS_forRange
abbrev z7a:=@Bool.false_ne_true
abbrev z7b:=@PySem.sizeLine_eq
abbrev z7c:=@decide_eq_decide
abbrev z7d:=@List.take_of_length_le
abbrev z7e:=@List.pairwise_iff_getElem
abbrev z7f:=@PyProof.Rows.wpS_mono
abbrev z7g:=@Nat.le_of_lt
abbrev z7h:=@PySem.wpAny_truthy_bool
abbrev z7i:=@List.take_append_drop
abbrev z7j:=@List.cons_lt_cons_iff
abbrev z7k:=@congrArg
abbrev z7l:=@if_true
abbrev z7m:=@List.length_set
abbrev z7n:=@Nat.add_sub_cancel_left
abbrev z7o:=@decide_eq_false_iff_not
abbrev z7p:=@PySem.W.mg_none_of
abbrev z7q:=@List.mem_map
abbrev z7r:=@Nat.lt_or_ge
abbrev z7s:=@Ne.symm
abbrev z7t:=@PySem.mem_of_lookup
abbrev z7u:=@List.pairwise_map
abbrev z7v:=@List.nodup_cons
abbrev z7w:=@List.of_mem_zip
abbrev z7x:=@List.length_filter_le
abbrev z7y:=@PySem.wpAny_Call_Name_kw
abbrev z7z:=@Option.isSome_iff_exists
abbrev z70:=@Nat.lt_of_le_of_lt
abbrev z71:=@Array.toList_extract
abbrev z72:=@Nat.lt_irrefl
abbrev z73:=@PySem.wpAny_mono
abbrev z74:=@beq_iff_eq
abbrev z75:=@List.getElem_take
abbrev z76:=@List.getElem_drop
abbrev z77:=@PySem.Heap.get?_update_other
abbrev z78:=@List.Perm.append_right
abbrev z79:=@List.drop_of_length_le
abbrev z8a:=@PySem.wpAny_execs_cons
abbrev z8b:=@List.getElem_mem
abbrev z8c:=@PySem.Heap.get?_update_self
abbrev z8d:=@Bool.not_true
abbrev z8e:=@List.Perm.append_left
abbrev z8f:=@Nat.add_assoc
abbrev z8g:=@List.map_map
abbrev z8h:=@Int.emod_lt_of_pos
abbrev z8i:=@List.not_lt
abbrev z8j:=@PySem.W.hideAll_none
abbrev z8k:=@List.forall_mem_cons
abbrev z8l:=@PySem.wpAny_passesOwn
abbrev z8m:=@List.getElem?_take_of_lt
abbrev z8n:=@PyProof.Rows.slot_tuple_getitem
abbrev z8o:=@List.cons.injEq
abbrev z8p:=@Nat.le_antisymm
abbrev z8q:=@beq_eq_false_iff_ne
abbrev z8r:=@PySem.W.hideAll_get
abbrev z8s:=@List.mem_map_of_mem
abbrev z8t:=@List.pairwise_singleton
abbrev z8u:=@Nat.add_lt_add_left
abbrev z8v:=@List.drop_append_of_le_length
abbrev z8w:=@List.take_append_of_le_length
abbrev z8x:=@PyProof.Rows.wpS_modify
abbrev z8y:=@List.Perm.refl
abbrev z8z:=@List.drop_eq_nil_of_le
abbrev z80:=@PySem.W.callWith_K
abbrev z81:=@Nat.add_sub_cancel
abbrev z82:=@List.getElem?_drop
abbrev z83:=@PyProof.Rows.callWith_type1
abbrev z84:=@List.perm_append_comm
abbrev z85:=@List.Pairwise.sublist
abbrev z86:=@Nat.add_lt_of_lt_sub'
abbrev z87:=@Int.emod_nonneg
abbrev z88:=@PySem.wpAny_newObj_type
abbrev z89:=@List.nodup_append
abbrev z9a:=@Bool.not_eq_true'
abbrev z9b:=@Array.toList_push
abbrev z9c:=@PySem.wpAny_newFunctionEnv_cells
abbrev z9d:=@PySem.Heap.get?_none_of_le
abbrev z9e:=@List.mem_of_mem_drop
abbrev z9f:=@Array.toList_reverse
abbrev z9g:=@List.drop_zero
abbrev z9h:=@beq_self_eq_true
abbrev z9i:=@List.reverse_append
abbrev z9j:=@Nat.add_sub_cancel'
abbrev z9k:=@List.flatten_append
abbrev z9l:=@List.length_pos_iff
abbrev z9m:=@PySem.F.args_tuple_add_2
abbrev z9n:=@Nat.sub_self
abbrev z9o:=@Nat.succ.inj
abbrev z9p:=@Array.findIdx?_eq_some_iff_getElem
abbrev z9q:=@PySem.wpAny_execs_nil
abbrev z9r:=@PySem.F.entry_tuple_add
abbrev z9s:=@PySem.W.mg_of
abbrev z9t:=@List.cons.inj
abbrev z9u:=@Nat.not_lt_zero
abbrev z9v:=@List.map_append
abbrev z9w:=@Bool.eq_iff_iff
abbrev z9x:=@List.pairwise_of_forall_mem_list
abbrev z9y:=@PySem.F.slot_tuple_add
abbrev z9z:=@List.flatten_singleton
abbrev z90:=@List.take_sublist
abbrev z91:=@PySem.wpAny_field
abbrev z92:=@Nat.le_of_lt_succ
abbrev z93:=@Array.size_append
abbrev z94:=@List.drop_drop
abbrev z95:=@PySem.codeAny_mono
abbrev z96:=@PySem.codeAny_call_function
abbrev z97:=@Nat.zero_add
abbrev z98:=@List.set_append_right
abbrev z99:=@Nat.lt_succ_self
abbrev qaa:=@List.mem_reverse
abbrev qab:=@Nat.max_eq_right
abbrev qac:=@List.reverse_reverse
abbrev qad:=@List.Pairwise.filter
abbrev qae:=@Nat.not_lt
abbrev qaf:=@PySem.W.plainGet_of
abbrev qag:=@List.forIn_cons
abbrev qah:=@PySem.F.attrBase_ValueError
abbrev qai:=@PyProof.Rows.wpS_get
abbrev qaj:=@Nat.add_le_add_left
abbrev qak:=@PySem.Heap.get?_update_ne
abbrev qal:=@List.filter_eq_self
abbrev qam:=@PySem.PassesOwn.never
abbrev qan:=@Array.toList_setIfInBounds
abbrev qao:=@List.takeWhile_cons_of_pos
abbrev qap:=@List.takeWhile_cons_of_neg
abbrev qaq:=@List.dropWhile_cons_of_pos
abbrev qar:=@List.dropWhile_cons_of_neg
abbrev qas:=@PySem.W.of_hideAll
abbrev qat:=@List.getElem?_take
abbrev qau:=@PyProof.Rows.listItems_at
abbrev qav:=@decide_eq_true_iff
abbrev qaw:=@List.mem_range
abbrev qax:=@Bool.false_and
abbrev qay:=@PySem.wpAny_loadPart
abbrev qaz:=@List.drop_left
abbrev qa0:=@List.take_left
abbrev qa1:=@Nat.add_le_add
abbrev qa2:=@PySem.F.plain_extend_loop
abbrev qa3:=@PySem.wpAny_Return_some
abbrev qa4:=@PySem.wpAny_call
abbrev qa5:=@Array.size_setIfInBounds
abbrev qa6:=@Nat.sub_pos_of_lt
abbrev qa7:=@decide_eq_true_eq
abbrev qa8:=@Nat.lt_succ_of_lt
abbrev qa9:=@PySem.wpAny_attempt
abbrev qba:=@List.getElem_inj
abbrev qbb:=@List.le_antisymm
abbrev qbc:=@List.filter_cons
abbrev qbd:=@PySem.concat_meets
abbrev qbe:=@PySem.wpAny_typeOf
abbrev qbf:=@List.map_nil
abbrev qbg:=@Nat.min_eq_left
abbrev qbh:=@Nat.min_le_left
abbrev qbi:=@Int.ofNat_lt
abbrev qbj:=@Int.add_zero
abbrev qbk:=@Bool.not_false
abbrev qbl:=@Sum.inl.inj
abbrev qbm:=@Nat.le_succ
abbrev qbn:=@Nat.sub_le
noncomputable section
namespace L2
open PySem PySem.Spec PyProof.Rows
abbrev Key:=Sum Int Str
def zit:Key->Value->Bool
 | .inl k,v=>Value.isInt k v
 | .inr x,v=>Value.isStrOf x v
def z46(w:World):Key->Int
 | .inl k=>hashInt k
 | .inr x=>hashStr w x
theorem ja:∀{k:Key}{v:Value},zit k v=true->(∃i t,k=Sum.inl i/\v=Value.int i t)\/(∃x t,k=Sum.inr x/\v=Value.str x t)
 | .inl i,v,h=>by obtain⟨t,e⟩:=Value.isInt_shape (k:=i) (v:=v) h;exact .inl ⟨i,t,rfl,e⟩
 | .inr x,v,h=>by obtain⟨t,e⟩:=Value.isStrOf_shape (x:=x) (v:=v) h;exact .inr ⟨x,t,rfl,e⟩
theorem zok(i:Int)(t:Tok):zit (.inl i) (.int i t)=true:=by simp[zit,Value.isInt]
theorem zoj(x:Str)(t:Tok):zit (.inr x) (.str x t)=true:=by simp[zit,Value.isStrOf]
theorem zzq(a b:Int):decide ((Sum.inl a:Key)=Sum.inl b)=(a==b):=by
 by_cases e:a=b
 · subst e;simp
 · have h:¬ (Sum.inl a:Key)=Sum.inl b:=fun q=>e (qbl q);rw[z54 h];exact(z8q.mpr e).symm
theorem zzn(a b:Str):decide ((Sum.inr a:Key)=Sum.inr b)=decide (a=b):=by
 by_cases e:a=b
 · subst e;simp
 · have h:¬ (Sum.inr a:Key)=Sum.inr b:=fun q=>e (Sum.inr.inj q);rw[z54 h,z54 e]
theorem zzp(a:Int)(b:Str):decide ((Sum.inl a:Key)=Sum.inr b)=false:=z54 (fun q=>nomatch q)
theorem zzo(a:Str)(b:Int):decide ((Sum.inr a:Key)=Sum.inl b)=false:=z54 (fun q=>nomatch q)
def xi(prog:Program)(w:World):PySem.KeyKind prog w Key where
 is:=zit
 hash:=z46 w
 inj:=fun v a b ha hb=>by
   rcases ja ha with⟨i,t,rfl,rfl⟩ | ⟨x,t,rfl,rfl⟩
   · rcases ja hb with⟨j,u,rfl,e⟩ | ⟨y,u,rfl,e⟩
     · injection e with e1 _;rw[e1]
     · exact nomatch e
   · rcases ja hb with⟨j,u,rfl,e⟩ | ⟨y,u,rfl,e⟩
     · exact nomatch e
     · injection e with e1 _;rw[e1]
 byValue:=fun k v h=>by rcases ja h with⟨i,t,rfl,rfl⟩ | ⟨x,t,rfl,rfl⟩<;>rfl
 pyHash:=fun hv h=>by
   rcases ja hv with⟨i,t,rfl,rfl⟩ | ⟨x,t,rfl,rfl⟩
   · exact wpAny_pyHash_int h
   · exact wpAny_pyHash_str h
 eqBool:=fun hu hv h=>by
   rcases ja hu with⟨i,t,rfl,rfl⟩ | ⟨x,t,rfl,rfl⟩
   · rcases ja hv with⟨j,u,rfl,rfl⟩ | ⟨y,u,rfl,rfl⟩
     · rw[zzq]at h;exact wpAny_eqBool_int h
     · rw[zzp]at h;exact SeqAt.EqAt.int_str i t y u _ _ _ _ h
   · rcases ja hv with⟨j,u,rfl,rfl⟩ | ⟨y,u,rfl,rfl⟩
     · rw[zzo]at h;exact SeqAt.EqAt.str_int x t j u _ _ _ _ h
     · rw[zzn]at h;exact wpAny_eqBool_str h
 «strs»:=fun k x t v h=>by
   rcases ja h with⟨i,u,rfl,e⟩ | ⟨y,u,rfl,e⟩
   · exact nomatch e
   · injection e with e1 _;subst e1;cases v<;>rfl
theorem zij(prog:Program)(w:World)(i:Int)(t:Tok):(xi prog w).is (.inl i) (.int i t)=true:=zok i t
theorem zii(prog:Program)(w:World)(x:Str)(t:Tok):(xi prog w).is (.inr x) (.str x t)=true:=zoj x t
inductive V where
 |non | bl (b:Bool) | int (i:Int) | str (x:Str) | byt (b:Array UInt8) | flt (b:UInt64) | ref (a:Addr) | ty (n:String)
 deriving DecidableEq
def RelV:V->Value->Prop
 | .non,u=>u=Value.none
 | .bl b,u=>u=Value.bool b
 | .int i,u=>∃t,u=Value.int i t
 | .str x,u=>∃t,u=Value.str x t
 | .byt b,u=>∃t,u=Value.bytes b t
 | .flt b,u=>∃t,u=Value.float b t
 | .ref a,u=>u=Value.ref a
 | .ty n,u=>u=Value.type n
abbrev Vals:List V->List Value->Prop:=Paired RelV
theorem Vals.length{xs:List V}{us:List Value}(r:Vals xs us):xs.length=us.length:=Paired.length r
theorem Vals.get:∀{xs:List V}{us:List Value}{i:Nat}{x:V},Vals xs us->xs[i]? = some x->∃u,us[i]? = some u/\RelV x u
 |_,_,_,_,.nil,e=>by simp at e
 |_,_,0,_,.cons r _,e=>by simp at e;subst e;exact⟨_,rfl,r⟩
 | _,_,i+1,x,.cons _ t,e=>by obtain⟨u,h1,h2⟩:=Vals.get (i:=i) (x:=x) t (by simpa using e);exact⟨u,by simpa using h1,h2⟩
theorem Vals.append:∀{xs ys:List V}{us ws:List Value},Vals xs us->Vals ys ws->Vals (xs++ys) (us++ws)
 |_,_,_,_,.nil,s=>s
 |_,_,_,_,.cons r t,s=>.cons r (Vals.append t s)
theorem Vals.take:∀{xs:List V}{us:List Value} (n:Nat),Vals xs us->Vals (xs.take n) (us.take n)
 |_,_,0,_=>.nil
 |_,_,_+1,.nil=>.nil
 |_,_,n+1,.cons r t=>.cons r (Vals.take n t)
theorem Vals.drop:∀{xs:List V}{us:List Value} (n:Nat),Vals xs us->Vals (xs.drop n) (us.drop n)
 |_,_,0,r=>r
 |_,_,_+1,.nil=>.nil
 |_,_,n+1,.cons _ t=>Vals.drop n t
def RelO:Option V->Option Value->Prop
 |some v,some u=>RelV v u
 |none,none=>True
 |_,_=>False
def KV{κ:Type}:List (κ×V)->List (κ×Value)->Prop:=Paired fun(p:κ×V) (q:κ×Value)=>p.1=q.1/\RelV p.2 q.2
def kV:Key->V
 | .inl i=>.int i
 | .inr x=>.str x
inductive HO where
   |lst (xs:List V)
   |tup (xs:List V)
   |dK (kvs:List (Key×V)) | dT (kvs:List (List Key×V))
   |set (S:Int->Bool) (n:Nat)
   |ins (C dx:Addr) (fs:List (Str×V))
   |own (x:Addr)
   |xd (fs:List (Str×V))
   |met (f x:Addr)
   |rng (lo hi:Int)
   |frz (o:Obj) (u:HO)
   |tbl (ps:Array Value)
   |ext (φ:Heap->Prop)
abbrev Hp:=Addr->Option HO
def upd(H:Hp)(a:Addr)(o:HO):Hp:=fun b=>if b=a then some o else H b
theorem qg{H:Hp}{a:Addr}{o:HO}:upd H a o a=some o:=by unfold upd;rw[z55 rfl]
theorem z0{H:Hp}{a b:Addr}{o:HO}(h:b≠a):upd H a o b=H b:=by unfold upd;rw[z6c h]
theorem ne_of{H:Hp}{a b:Addr}{o u:HO}(h:H a=some o)(h':H b=some u)(d:o≠u):a≠b:=by intro e;subst e;rw[h]at h';exact d (z62 h')
theorem qo{H:Hp}{a b:Addr}{o:HO}(h:H a=some o)(h':H b=none):a≠b:=by intro e;subst e;rw[h]at h';cases h'
section
variable (P:Program) (w:World)
def ObjOk(H:Hp)(h:Heap)(a:Addr):HO->Prop
 | .lst xs=>xs.length<=sizeLine/\∃(its:List Value) (n:Nat),Vals xs its/\h.get? a=some { cls:=.type "list",data:=.seq its.toArray n }
 | .tup xs=>xs.length<=sizeLine/\∃its:List Value,Vals xs its/\IsTup h a its.toArray
 | .dK kvs=>kvs.length<=sizeLine/\(a==sysModules)=false/\∃vs,KV kvs vs/\h.DictOf (xi P w) a vs
 | .dT kvs=>kvs.length<=sizeLine/\(a==sysModules)=false/\∃xs:List (List Key×Addr×Value),
     Paired (fun(p:List Key×V) (q:List Key×Addr×Value)=>p.1=q.1/\H q.2.1=some (.tup (p.1.map kV))/\RelV p.2 q.2.2) kvs xs /\
     ∃o es ep,h.get? a=some o/\o.ExactDict/\o.data=.dict es ep/\es.toList=xs.map (entryOfKey (tupleKind (xi P w)))/\(xs.map (·.1)).Nodup
 | .set S n=>h.SetOf (intKind P w) a S n
 | .ins C dx fs=>H dx=some (.own a)/\fs.length<=1000/\dx≠a/\h.get? a=some (PySem.W.instObj C dx) /\
     ∃mA,h.Ns1 dx mA/\(∀f,RelO (fs.lookup f) (mA f))/\PySem.Within mA (fs.map (·.1))
 | .own _=>∃o,h.get? a=some o
 | .xd fs=>∃mA,h.Ns1 a mA/\∀f,RelO (fs.lookup f) (mA f)
 | .rng lo hi=>∃t u v,h.get? a=some { cls:=.type "range",data:=.fields #[.int lo t,.int hi u,.int 1 v] }
 | .frz o u=>h.get? a=some o/\ObjOk H h a u
 | .tbl ps=>h.get? a=some { cls:=.none,data:=.fields ps }
 | .met f x=>h.get? a=some (PySem.W.methodObj (.ref f) (.ref x))
 | .ext φ=>φ h/\(∃o,h.get? a=some o)/\∀h1 h2:Heap,φ h1->(∀o,h1.get? a=some o->h2.get? a=some o)->φ h2
def HOk(H:Hp)(h:Heap):Prop:=∀a o,H a=some o->ObjOk P w H h a o
end
section
variable {P:Program}{w:World}{H H':Hp}{h h':Heap}{a:Addr}{o:HO}
theorem ObjOk.lt(x:ObjOk P w H h a o):a<h.objs.size:=by
 cases o with
 |lst xs=>obtain⟨_,_,_,_,e⟩:=x;exact z58 e
 |tup xs=>obtain⟨_,_,_,p⟩:=x;exact p.lt
 |dK kvs=>obtain⟨_,_,_,_,o,_,_,e,_⟩:=x;exact z58 e
 |dT kvs=>obtain⟨_,_,_,_,o,_,_,e,_⟩:=x;exact z58 e
 |set S n=>obtain⟨o,_,_,_,e,_⟩:=x;exact z58 e
 |ins C dx fs=>obtain⟨_,_,_,e,_⟩:=x;exact z58 e
 |own y=>obtain⟨_,e⟩:=x;exact z58 e
 |xd fs=>obtain⟨_,⟨_,_,_,e,_⟩,_⟩:=x;exact z58 e
 |rng lo hi=>obtain⟨_,_,_,e⟩:=x;exact z58 e
 |frz ob u=>obtain⟨e,_⟩:=x;exact z58 e
 |tbl ps=>exact z58 (show h.get? a=some _ from x)
 |met f y=>exact z58 (show h.get? a=some _ from x)
 |ext φ=>obtain⟨_,⟨_,e⟩,_⟩:=x;exact z58 e
theorem Paired.mapP{α β:Type}{F G:α->β->Prop}:∀{l₁:List α}{l₂:List β},Paired F l₁ l₂->(∀a b,F a b->G a b)->Paired G l₁ l₂
 |_,_,.nil,_=>.nil
 |_,_,.cons r t,f=>.cons (f _ _ r) (Paired.mapP t f)
theorem ObjOk.stay(x:ObjOk P w H h a o)(k:∀b u,(b=a\/H b=some (.own a))->h.get? b=some u->h'.get? b=some u)
   (ho:∀b,H b=some (.own a)->H' b=some (.own a)) (ht:∀b xs,H b=some (.tup xs)->H' b=some (.tup xs)):ObjOk P w H' h' a o:=by
 induction o with
 |lst xs=>obtain⟨z,its,n,r,e⟩:=x;exact⟨z,its,n,r,k _ _ (.inl rfl) e⟩
 |tup xs=>obtain⟨z,its,r,ob,e,c⟩:=x;exact⟨z,its,r,ob,k _ _ (.inl rfl) e,c⟩
 |dK kvs=>obtain⟨z,y,vs,r,ob,es,ep,e,c⟩:=x;exact⟨z,y,vs,r,ob,es,ep,k _ _ (.inl rfl) e,c⟩
 | dT kvs=>
   obtain⟨z,y,xs,r,ob,es,ep,e,c⟩:=x;exact⟨z,y,xs,Paired.mapP r fun p q z=>⟨z.1,ht _ _ z.2.1,z.2.2⟩,ob,es,ep,k _ _ (.inl rfl) e,c⟩
 |set S n=>obtain⟨ob,es,ep,t,e,c⟩:=x;exact⟨ob,es,ep,t,k _ _ (.inl rfl) e,c⟩
 | ins C dx fs=>
   obtain⟨d,z,ne,e,mA,⟨od,es,ep,e2,c⟩,r⟩:=x;exact⟨ho _ d,z,ne,k _ _ (.inl rfl) e,mA,⟨od,es,ep,k _ _ (.inr d) e2,c⟩,r⟩
 |own y=>obtain⟨ob,e⟩:=x;exact⟨ob,k _ _ (.inl rfl) e⟩
 |xd fs=>obtain⟨mA,⟨od,es,ep,e,c⟩,r⟩:=x;exact⟨mA,⟨od,es,ep,k _ _ (.inl rfl) e,c⟩,r⟩
 |rng lo hi=>obtain⟨t,u,v,e⟩:=x;exact⟨t,u,v,k _ _ (.inl rfl) e⟩
 |frz ob u ih=>obtain⟨e,q⟩:=x;exact⟨k _ _ (.inl rfl) e,ih q⟩
 | tbl ps=>
   have e:h.get? a=some { cls:=.none,data:=.fields ps }:=x;show h'.get? a=some { cls:=.none,data:=.fields ps };exact k a _ (.inl rfl) e
 | met f y=>
   have e:h.get? a=some (PySem.W.methodObj (.ref f) (.ref y)):=x;show h'.get? a=some (PySem.W.methodObj (.ref f) (.ref y));exact k a _ (.inl rfl) e
 |ext φ=>obtain⟨p,⟨o,e⟩,st⟩:=x;exact⟨st _ _ p fun o q=>k _ _ (.inl rfl) q,⟨o,k _ _ (.inl rfl) e⟩,st⟩
theorem HOk.lt(x:HOk P w H h)(e:H a=some o):a<h.objs.size:=(x a o e).lt
theorem HOk.fresh(x:HOk P w H h)(e:h.objs.size<=a):H a=none:=by
 cases q:H a with
 |none=>rfl
 |some u=>exact absurd (z5q (x.lt q) e) (z72 _)
theorem HOk.kept(x:HOk P w H h)(k:∀b u,h.get? b=some u->h'.get? b=some u):HOk P w H h':=fun a o e=>
 (x a o e).stay (fun b u _ q=>k b u q) (fun _ q=>q) fun _ _ q=>q
theorem HOk.laid(x:HOk P w H h)(k:∀b u,h.get? b=some u->h'.get? b=some u)(hp:h.objs.size<=a)(new:ObjOk P w (upd H a o) h' a o):HOk P w (upd H a o) h':=fun b u e=>by
 have hn:=x.fresh hp;by_cases hb:b=a
 · subst hb;rw[qg]at e;cases e;exact new
 · rw[z0 hb]at e;exact(x b u e).stay (fun c v _ q=>k c v q) (fun c q=>by rw[z0 (qo q hn)];exact q) fun c xs q=>by rw[z0 (qo q hn)];exact q
end
def Rd(H:Hp)(a:Addr)(u:HO):Prop:=H a=some u\/∃o,H a=some (.frz o u)
theorem Rd.ok{P:Program}{w:World}{H:Hp}{h:Heap}{a:Addr}{u:HO}(r:Rd H a u)(x:HOk P w H h):ObjOk P w H h a u:=by
 rcases r with r | ⟨o,r⟩
 · exact x a u r
 · obtain⟨_,q⟩:=x a _ r;exact q
def Mut:Option HO->Prop
 |some (.lst _)=>True
 |some (.dK _)=>True
 |some (.dT _)=>True
 |some (.set _ _)=>True
 |some (.ins _ _ _)=>True
 |some (.ext _)=>True
 |_=>False
section
variable {P:Program}{w:World}{H:Hp}{h h':Heap}{x e:Addr}{o':HO}
theorem HOk.write(ok:HOk P w H h)(mu:Mut (H x))(he:e=x\/H e=some (.own x))(k:∀b u,b≠e->h.get? b=some u->h'.get? b=some u)(heo:∃u,h'.get? e=some u)
   (new:ObjOk P w (upd H x o') h' x o'):HOk P w (upd H x o') h':=fun b u q=>by
 have nown:∀c y,H c=some (.own y)->c≠x:=fun c y r z=>by subst z;rw[r]at mu;exact mu
 have ntup:∀c xs,H c=some (.tup xs)->c≠x:=fun c xs r z=>by subst z;rw[r]at mu;exact mu
 by_cases hb:b=x
 · subst hb;rw[qg]at q;cases q;exact new
 · rw[z0 hb]at q;by_cases hbe:b=e
   · have q':H b=some (.own x):=by
       rcases he with z | z
       · exact absurd (hbe.trans z) hb
       · rw[hbe];exact z
     rw[q]at q';cases q';obtain⟨v,hv⟩:=heo;exact⟨v,by rw[hbe];exact hv⟩
   · refine(ok b u q).stay (fun c v hc r=>k c v ?_ r) (fun c r=>by rw[z0 (nown c b r)];exact r) fun c xs r=>by rw[z0 (ntup c xs r)];exact r
     rcases hc with rfl | hc
     · exact hbe
     · rintro rfl;rcases he with z | z
       · exact nown c b hc z
       · rw[hc]at z;cases z;exact hb rfl
end
structure Un (fs ex:List Addr) (H H':Hp) (h h':Heap):Prop where
 keep:∀b o,h.get? b=some o->H b=none->b∉fs->b∉ex->h'.get? b=some o
 slot:∀b o,h.get? b=some o->H b=none->b∈fs->b∉ex->∃sl,h'.get? b=some { o with slots:=sl }
 free:∀b o,h.get? b=some o->H b=none->b∉ex->H' b=none
 there:∀b o,h.get? b=some o->b∉ex->∃o',h'.get? b=some o'
 tups:∀b xs,H b=some (.tup xs)->H' b=some (.tup xs)
 frzs:∀b o u,H b=some (.frz o u)->H' b=some (.frz o u)
 tbls:∀b ps,H b=some (.tbl ps)->∃more,H' b=some (.tbl (ps++more))
section
variable {fs fs' ex ex':List Addr}{H H1 H2:Hp}{h h1 h2 h':Heap}{a x e:Addr}{o:HO}
theorem Un.any(u:Un fs ex H H1 h h1){b:Addr}{ob:Obj}(q:h.get? b=some ob)(n:H b=none)(hx:b∉ex):∃sl,h1.get? b=some { ob with slots:=sl }:=by
 by_cases hb:b∈fs
 · exact u.slot b ob q n hb hx
 · exact⟨ob.slots,u.keep b ob q n hb hx⟩
theorem Un.kept(k:∀b u,h.get? b=some u->h'.get? b=some u):Un fs ex H H h h' :=
 ⟨fun b ob q _ _ _=>k b ob q,fun b ob q _ _ _=>⟨ob.slots,k b ob q⟩,fun _ _ _ n _=>n,fun b ob q _=>⟨ob,k b ob q⟩,fun _ _ q=>q,fun _ _ _ q=>q,fun _ ps q=>⟨#[],by rw[q];simp⟩⟩
theorem Un.refl:Un fs ex H H h h:=Un.kept fun _ _ q=>q
theorem Un.laid(k:∀b u,h.get? b=some u->h'.get? b=some u)(hp:h.objs.size<=a)(hn:H a=none):Un fs ex H (upd H a o) h h' where
 keep:=fun b u q _ _ _=>k b u q
 slot:=fun b u q _ _ _=>⟨u.slots,k b u q⟩
 free:=fun b u q n _=>by rw[z0 (z56 (z5q (z58 q) hp))];exact n
 there:=fun b u q _=>⟨u,k b u q⟩
 tups:=fun b xs q=>by rw[z0 (qo q hn)];exact q
 frzs:=fun b u xs q=>by rw[z0 (qo q hn)];exact q
 tbls:=fun b ps q=>⟨#[],by rw[z0 (qo q hn),q];simp⟩
theorem Un.write(mu:Mut (H x))(he:e=x\/H e=some (.own x))(k:∀b u,b≠e->h.get? b=some u->h'.get? b=some u)(heo:∃u,h'.get? e=some u):Un fs ex H (upd H x o) h h':=by
 have hx:∀b,H b=none->b≠x:=fun b n z=>by subst z;rw[n]at mu;exact mu
 have hb:∀b,H b=none->b≠e:=fun b n z=>by
   subst z;rcases he with r | r
   · exact hx b n r
   · rw[n]at r;cases r
 have hm:∀b u,H b=some u->¬ Mut (some u)->b≠x:=fun b u q nm z=>by subst z;rw[q]at mu;exact nm mu
 refine⟨fun b u q n _ _=>k b u (hb b n) q,fun b u q n _ _=>⟨u.slots,k b u (hb b n) q⟩,fun b u q n _=>by rw[z0 (hx b n)];exact n,fun b u q _=>?_,
   fun b xs q=>by rw[z0 (hm b _ q fun z=>z)];exact q,fun b u xs q=>by rw[z0 (hm b _ q fun z=>z)];exact q,fun b ps q=>⟨#[],by rw[z0 (hm b _ q fun z=>z),q];simp⟩⟩
 by_cases hbe:b=e
 · subst hbe;exact heo
 · exact⟨u,k b u hbe q⟩
end
def trk(h:Heap)(H:Hp):List Addr:=(List.range h.objs.size).filter fun a=>(H a).isSome
def zrs(h:Heap)(H:Hp):Heap:=PySem.W.hideAll h (trk h H)
theorem zor(h:Heap)(H:Hp):(zrs h H).objs.size=h.objs.size:=PySem.W.hideAll_size _ _
theorem zfo{h:Heap}{H:Hp}{b:Addr}{o:Obj}(e:h.get? b=some o)(n:H b=none):(zrs h H).get? b=some o :=
 z8r _ e fun hm=>by have q:(H b).isSome=true:=(z67.mp hm).2;rw[n]at q;simp at q
theorem zvw{h:Heap}{H:Hp}{b:Addr}{o:Obj}(e:(zrs h H).get? b=some o):h.get? b=some o/\H b=none:=by
 have e':h.get? b=some o:=qas (trk h H) e;refine⟨e',?_⟩;cases q:H b with
 |none=>rfl
 | some x=>
   have hm:b∈trk h H:=z67.mpr ⟨qaw.mpr (z58 e'),by simp[q]⟩;have z:(zrs h H).get? b=none:=z8j (trk h H) hm;rw[z]at e;cases e
def zw3(g h:Heap)(L:Addr):zAO:=(List.range h.objs.size).filterMap fun a=>if a=L\/(g.get? a).isSome=true then none else (h.get? a).map fun o=>(a,o)
def rest(g h:Heap)(L d:Addr):zAO:=(zw3 g h L).filter fun p=>decide (p.1≠d)
structure Mod (K:zFr) (mg:zMg) (base:Heap):Prop where
 kin:K.In base
 glob:base.Ns mainGlobals mg
 blt:∃mb,base.Ns builtinsNs mb/\∀x:Str,x≠"__name__"->mb x=bootBuiltins x
 nolimit:base.NoLimit
structure Cx where
 prog:Program
 w:World
 K:zFr
 mg:zMg
 base:Heap
 A:Around
 N:List Str
 s₀:Shared
 H₀:Hp
 env:Env
 outer:List Env
 stack:List Env
 ex:List Addr
 fn:Str->Bool
 calm:Bool
 pn:zAO
 xe:zVP
def frs(l:List Env):List Addr:=l.filterMap (·.frame)
abbrev Cx.fs(X:Cx):List Addr:=frs X.outer
def Vis(sc:Scope)(x:Str):Prop:=sc.names.lookup x=some .local\/sc.names.lookup x=some .cell\/sc.names.lookup x=some .free
def Loc(sc:Scope)(x:Str):Prop:=sc.names.lookup x=some .local\/sc.names.lookup x=some .cell
def z5j(env:Env)(h:Heap)(m:zMg)(x:Str)(u:Value):Prop :=
 (env.kindOf x=some .local/\m x=some u)\/((env.kindOf x=some .cell\/env.kindOf x=some .free)/\∃c,env.cells.lookup x=some c/\h.IsCell c (some u))
structure Cx.Ok (X:Cx):Prop where
 mod:Mod X.K X.mg X.base
 kind:X.env.scope.kind=.function
 glob:X.env.globals=mainGlobals
 blt:X.env.builtins=builtinsNs
 above:X.s₀.heap.objs.size<=X.env.locals
 inj:∀x y c,X.env.cells.lookup x=some c->X.env.cells.lookup y=some c->x=y
 has:∀x,(X.env.kindOf x=some .cell\/X.env.kindOf x=some .free)->∃c,X.env.cells.lookup x=some c
 cab:∀x c,X.fn x=true->X.env.cells.lookup x=some c->X.s₀.heap.objs.size<=c
 hd:X.calm=true->X.A.handled=none
 frames:X.A.frames=some X.stack
 stk:X.stack=X.outer\/(X.stack=X.env::X.outer/\X.env.frame=some X.env.locals)
 exf:∀b∈X.ex,b≠X.env.locals/\∀x c,X.env.cells.lookup x=some c->c≠b
 bs:∀b o,X.base.get? b=some o->X.s₀.heap.get? b=some o/\X.H₀ b=none
 bsz:X.base.objs.size<=X.s₀.heap.objs.size
 noex:∀b o,X.base.get? b=some o->b∉X.ex
 exfs:∀b∈X.ex,b∉X.fs
 funs:X.s₀.heap.FunFrames X.base X.outer
 frf:∀b∈X.fs,X.H₀ b=none
structure Inv (X:Cx) (pins:zAO) (σ:List (Option V)) (H:Hp) (s:Shared):Prop where
 ok:X.Ok
 os:s.os=X.s₀.os
 bare:AllBare s.gens
 base:Un X.fs X.ex X.H₀ H X.s₀.heap s.heap
 loc:∃m,s.heap.Ns X.env.locals m/\∀(i:Nat) (x:Str) (v:V),X.N[i]? = some x->σ[i]? = some (some v)->Vis X.env.scope x->∃u,RelV v u/\z5j X.env s.heap m x u
 cell:∀x c,X.env.cells.lookup x=some c->∃v,s.heap.IsCell c v
 free:H X.env.locals=none
 freeC:∀x c,X.env.cells.lookup x=some c->H c=none
 pin:∀p∈X.pn++pins,s.heap.get? p.1=some p.2/\H p.1=none/\p.1≠X.env.locals/\p.1∉X.fs/\∀v,p.2.data≠.cell v
 hok:HOk X.prog X.w H s.heap
 len:σ.length=X.N.length
section
variable {X:Cx}{pins:zAO}{σ:List (Option V)}{H H':Hp}{s:Shared}{h':Heap}
theorem Cx.Ok.nofr(ok:X.Ok){b:Addr}{o:Obj}(e:X.base.get? b=some o):b∉X.fs:=fun hb=>by have:=(ok.funs.mem hb).1;rw[e]at this;cases this
theorem Inv.bs(I:Inv X pins σ H s):∀b o,X.base.get? b=some o->s.heap.get? b=some o/\H b=none:=fun b o e=>
 ⟨I.base.keep b o (I.ok.bs b o e).1 (I.ok.bs b o e).2 (I.ok.nofr e) (I.ok.noex b o e),I.base.free b o (I.ok.bs b o e).1 (I.ok.bs b o e).2 (I.ok.noex b o e)⟩
theorem Inv.bk(I:Inv X pins σ H s):∀b o,X.base.get? b=some o->s.heap.get? b=some o:=fun b o e=>(I.bs b o e).1
theorem Inv.mod(I:Inv X pins σ H s):Mod X.K X.mg X.base:=I.ok.mod
theorem Inv.kIn(I:Inv X pins σ H s):X.K.In s.heap:=I.ok.mod.kin.keeps I.bk
theorem Inv.lt(I:Inv X pins σ H s):X.env.locals<s.heap.objs.size:=let⟨_,hn,_⟩:=I.loc;hn.lt
theorem Inv.sz(I:Inv X pins σ H s):X.s₀.heap.objs.size<=s.heap.objs.size:=z6h I.ok.above (z7g I.lt)
theorem Inv.nofs(I:Inv X pins σ H s){a:Addr}(h:s.heap.objs.size<=a):a∉X.fs:=fun hb=>by obtain⟨_,o,ho,_⟩:=I.ok.funs.mem hb;exact absurd (z5q (z58 ho) (z6h I.sz h)) (z72 _)
theorem Inv.cne(I:Inv X pins σ H s):∀x c,X.env.cells.lookup x=some c->c≠X.env.locals:=fun x c e z=>by obtain⟨v,o,ho,hd⟩:=I.cell x c e;obtain⟨m,⟨o',es,ep,ho',hd',_⟩,_⟩:=I.loc;rw[z,ho']at ho;cases ho;rw[hd']at hd;cases hd
theorem Inv.funs(I:Inv X pins σ H s):s.heap.FunFrames X.base X.outer:=by
 have all:∀(l:List Env),(∀b∈frs l,b∈X.fs)->X.s₀.heap.FunFrames X.base l->s.heap.FunFrames X.base l:=by
   intro l
   induction l with
   |nil=>intro _ _;trivial
   | cons env r ih=>
     intro hs hl;obtain⟨hk,⟨L,o,hf,hn,ho,hd⟩,hr⟩:=hl;have hL:L∈X.fs:=hs L (by unfold frs;rw[List.filterMap_cons,hf];exact z5z);obtain⟨sl,e⟩:=I.base.slot L o ho (I.ok.frf L hL) hL fun z=>I.ok.exfs L z hL;exact⟨hk,⟨L,_,hf,hn,e,hd⟩,ih (fun b hb=>hs b (by unfold frs;rw[List.filterMap_cons,hf];exact z5u _ hb)) hr⟩
 exact all X.outer (fun _ hb=>hb) I.ok.funs
theorem Inv.stack(I:Inv X pins σ H s):s.heap.FunFrames X.base X.stack:=by
 rcases I.ok.stk with e | ⟨e,hf⟩
 · rw[e];exact I.funs
 · rw[e];obtain⟨m,hn,_⟩:=I.loc;refine .cons (by rw[I.ok.kind];decide) hf hn ?_ I.funs;exact z9d (z6h I.ok.bsz I.ok.above)
theorem Inv.stkSub(I:Inv X pins σ H s):∀b∈frs X.stack,b∈X.env.locals::X.fs:=fun b hb=>by
 rcases I.ok.stk with e | ⟨e,hf⟩
 · rw[e]at hb;exact z5u _ hb
 · rw[e]at hb;unfold frs at hb;rw[List.filterMap_cons,hf]at hb;exact hb
theorem Inv.stkFree(I:Inv X pins σ H s):∀b∈frs X.stack,H b=none:=fun b hb=>by
 rcases z5y.mp (I.stkSub b hb)with e | hb
 · rw[e];exact I.free
 · obtain⟨_,o,ho,_⟩:=I.ok.funs.mem hb;exact I.base.free b o ho (I.ok.frf b hb) fun z=>I.ok.exfs b z hb
theorem Inv.step{g':Array GenState}{t':Nat}{d':Drawn}{ch:List Addr}(I:Inv X pins σ H s)
   (hch:∀b∈ch,(b∈X.ex\/X.s₀.heap.objs.size<=b)/\b≠X.env.locals/\(∀x c,X.env.cells.lookup x=some c->c≠b)/\∀p∈X.pn++pins,p.1≠b)
   (keep:∀b o,b≠X.env.locals->b∉X.fs->b∉ch->s.heap.get? b=some o->H b=none->h'.get? b=some o)
   (slot:∀b o,b≠X.env.locals->b∈X.fs->b∉ch->s.heap.get? b=some o->H b=none->∃sl,h'.get? b=some { o with slots:=sl }) (free:∀b o,b∉ch->s.heap.get? b=some o->H b=none->H' b=none)
   (there:∀b o,b∉ch->s.heap.get? b=some o->∃o',h'.get? b=some o')
   (tups:∀b xs,H b=some (.tup xs)->H' b=some (.tup xs)) (frzs:∀b o u,H b=some (.frz o u)->H' b=some (.frz o u)) (tbls:∀b ps,H b=some (.tbl ps)->∃more,H' b=some (.tbl (ps++more)))
   (ns:∀m,s.heap.Ns X.env.locals m->h'.Ns X.env.locals m) (hok:HOk X.prog X.w H' h') (hg:AllBare g') :
   Inv X pins σ H' { s with heap:=h',gens:=g',drawn:=d',toks:=t' }:=by
 have neL:∀b o,X.s₀.heap.get? b=some o->b≠X.env.locals:=fun b o e=>z56 (z5q (z58 e) I.ok.above);have neC:∀b o,X.s₀.heap.get? b=some o->b∉X.ex->b∉ch:=fun b o e hx hb=>by
   rcases(hch b hb).1 with z | z
   · exact hx z
   · exact absurd (z5q (z58 e) z) (z72 _)
 have cellK:∀x c,X.env.cells.lookup x=some c->∀v,s.heap.IsCell c v->h'.IsCell c v:=fun x c e v ⟨o,ho,hd⟩=>by
   have nch:c∉ch:=fun z=>(hch c z).2.2.1 x c e rfl;by_cases hc:c∈X.fs
   · obtain⟨sl,q⟩:=slot c o (I.cne x c e) hc nch ho (I.freeC x c e);exact⟨_,q,hd⟩
   · exact⟨o,keep c o (I.cne x c e) hc nch ho (I.freeC x c e),hd⟩
 refine⟨I.ok,I.os,hg,⟨fun b o e n hb hx=>?_,fun b o e n hb hx=>?_,fun b o e n hx=>?_,fun b o e hx=>?_,fun b xs e=>tups b xs (I.base.tups b xs e),fun b o xs e=>frzs b o xs (I.base.frzs b o xs e),fun b ps e=>?_⟩,?_,fun x c e=>?_,?_,fun x c e=>?_,fun p hp=>?_,hok,I.len⟩
 · exact keep b o (neL b o e) hb (neC b o e hx) (I.base.keep b o e n hb hx) (I.base.free b o e n hx)
 · obtain⟨sl,e1⟩:=I.base.slot b o e n hb hx;obtain⟨sl',e2⟩:=slot b _ (neL b o e) hb (neC b o e hx) e1 (I.base.free b o e n hx);exact⟨sl',e2⟩
 · obtain⟨o',e1⟩:=I.base.there b o e hx;exact free b o' (neC b o e hx) e1 (I.base.free b o e n hx)
 · obtain⟨o',e1⟩:=I.base.there b o e hx;exact there b o' (neC b o e hx) e1
 · obtain⟨m1,e1⟩:=I.base.tbls b ps e;obtain⟨m2,e2⟩:=tbls b _ e1;exact⟨m1++m2,by rw[e2,Array.append_assoc]⟩
 · obtain⟨m,hn,hl⟩:=I.loc;refine⟨m,ns m hn,fun i x v e1 e2 e3=>?_⟩;obtain⟨u,r,l⟩:=hl i x v e1 e2 e3;refine⟨u,r,?_⟩;rcases l with l | ⟨k,c,e,z⟩
   · exact .inl l
   · exact .inr ⟨k,c,e,cellK x c e _ z⟩
 · obtain⟨v,z⟩:=I.cell x c e;exact⟨v,cellK x c e v z⟩
 · obtain⟨m,⟨o,_,_,ho,_⟩,_⟩:=I.loc;exact free _ o (fun z=>(hch _ z).2.1 rfl) ho I.free
 · obtain⟨v,o,ho,hd⟩:=I.cell x c e;exact free c o (fun z=>(hch c z).2.2.1 x c e rfl) ho (I.freeC x c e)
 · obtain⟨e,n,ne,nf,d⟩:=I.pin p hp;have nch:p.1∉ch:=fun z=>(hch p.1 z).2.2.2 p hp rfl;exact⟨keep p.1 p.2 ne nf nch e n,free p.1 p.2 nch e n,ne,nf,d⟩
theorem Inv.un{t':Nat}(I:Inv X pins σ H s)(u:Un X.fs [] H H' s.heap h')(hok:HOk X.prog X.w H' h'):Inv X pins σ H' { s with heap:=h',toks:=t' }:=by
 obtain⟨m,⟨o,es,ep,ho,r⟩,_⟩:=id I.loc;obtain⟨sl,hL⟩:=u.any ho I.free (by simp);exact I.step (g':=s.gens) (d':=s.drawn) (ch:=[]) (fun _ z=>nomatch z) (fun b o _ hb _ e n=>u.keep b o e n hb (by simp)) (fun b o _ hb _ e n=>u.slot b o e n hb (by simp)) (fun b o _ e n=>u.free b o e n (by simp)) (fun b o _ e=>u.there b o e (by simp)) u.tups u.frzs u.tbls (fun m' hm=>by
   obtain⟨o',es',ep',ho',r'⟩:=hm;rw[ho]at ho';cases ho';exact⟨_,es',ep',hL,r'⟩) hok I.bare
theorem Inv.call{g':Array GenState}{t':Nat}{d':Drawn}{ch:List Addr}(I:Inv X pins σ H s)(u:Un (frs X.stack) ch H H' s.heap h')(hok:HOk X.prog X.w H' h')(hg:AllBare g')
   (hch:∀b∈ch,(b∈X.ex\/X.s₀.heap.objs.size<=b)/\b≠X.env.locals/\(∀x c,X.env.cells.lookup x=some c->c≠b)/\∀p∈X.pn++pins,p.1≠b) :
   Inv X pins σ H' { s with heap:=h',gens:=g',drawn:=d',toks:=t' }:=by
 obtain⟨m,⟨o,es,ep,ho,r⟩,_⟩:=id I.loc;obtain⟨sl,hL⟩:=u.any ho I.free fun z=>(hch _ z).2.1 rfl;exact I.step (ch:=ch) hch (fun b o hL hb hc e n=>u.keep b o e n (fun z=>(z5y.mp (I.stkSub b z)).elim hL hb) hc) (fun b o _ _ hc e n=>u.any e n hc) (fun b o hc e n=>u.free b o e n hc) (fun b o hc e=>u.there b o e hc) u.tups u.frzs u.tbls (fun m' hm=>by
   obtain⟨o',es',ep',ho',r'⟩:=hm;rw[ho]at ho';cases ho';exact⟨_,es',ep',hL,r'⟩) hok hg
theorem Inv.turned{t':Nat}{it:Addr}(I:Inv X pins σ H s)(k:∀b o,b≠it->s.heap.get? b=some o->h'.get? b=some o)(hn:H it=none)(hL:it≠X.env.locals)
   (h1:it∈X.ex\/X.s₀.heap.objs.size<=it) (h2:∀x c,X.env.cells.lookup x=some c->c≠it) (h3:∀p∈X.pn++pins,p.1≠it):Inv X pins σ H { s with heap:=h',toks:=t' }:=by
 have nit:∀b u,H b=some u->b≠it:=fun b u e z=>by rw[z,hn]at e;cases e
 refine I.step (g':=s.gens) (d':=s.drawn) (ch:=[it]) (fun b hb=>?_) (fun b o _ _ hc e _=>k b o (fun z=>hc (by simp[z])) e) (fun b o _ _ hc e _=>⟨o.slots,k b o (fun z=>hc (by simp[z])) e⟩) (fun _ _ _ _ n=>n)
   (fun b o hc e=>⟨o,k b o (fun z=>hc (by simp[z])) e⟩) (fun _ _ e=>e) (fun _ _ _ e=>e) (fun b ps e=>⟨#[],by rw[e];simp⟩) (fun m hm=>?_) (fun b u e=>?_) I.bare
 · have e:b=it:=by simpa using hb
   subst e;exact⟨h1,hL,h2,h3⟩
 · obtain⟨o,es,ep,ho,r⟩:=hm;exact⟨o,es,ep,k _ o (z7s hL) ho,r⟩
 · refine(I.hok b u e).stay (fun c v hc q=>k c v ?_ q) (fun _ q=>q) fun _ _ q=>q;rcases hc with z | z
   · rw[z];exact nit b u e
   · exact nit c _ z
theorem Inv.tok(I:Inv X pins σ H s)(t:Nat):Inv X pins σ H { s with toks:=t }:=I.un (h':=s.heap) (t':=t) Un.refl I.hok
theorem Inv.kept{t':Nat}(I:Inv X pins σ H s)(k:∀b u,s.heap.get? b=some u->h'.get? b=some u):Inv X pins σ H { s with heap:=h',toks:=t' }:=I.un (Un.kept k) (I.hok.kept k)
theorem Inv.laid{a:Addr}{o:HO}{t':Nat}(I:Inv X pins σ H s)(k:∀b u,s.heap.get? b=some u->h'.get? b=some u)(hp:s.heap.objs.size<=a)(new:ObjOk X.prog X.w (upd H a o) h' a o) :
   Inv X pins σ (upd H a o) { s with heap:=h',toks:=t' }:=I.un (Un.laid k hp (I.hok.fresh hp)) (I.hok.laid k hp new)
theorem Inv.write{x e:Addr}{o:HO}{t':Nat}(I:Inv X pins σ H s)(mu:Mut (H x))(he:e=x\/H e=some (.own x))(k:∀b u,b≠e->s.heap.get? b=some u->h'.get? b=some u)(heo:∃u,h'.get? e=some u)
   (new:ObjOk X.prog X.w (upd H x o) h' x o):Inv X pins σ (upd H x o) { s with heap:=h',toks:=t' }:=I.un (Un.write mu he k heo) (I.hok.write mu he k heo new)
theorem Inv.pins_of{pins':zAO}(I:Inv X pins σ H s)(h:∀p∈pins',s.heap.get? p.1=some p.2/\H p.1=none/\p.1≠X.env.locals/\p.1∉X.fs/\∀v,p.2.data≠.cell v):Inv X pins' σ H s :=
 ⟨I.ok,I.os,I.bare,I.base,I.loc,I.cell,I.free,I.freeC,fun p hp=>(z6i.mp hp).elim (fun z=>I.pin p (z6w _ z)) (h p),I.hok,I.len⟩
theorem zfe{N:List Str}(hN:N.Nodup){i j:Nat}{x:Str}(a:N[i]? = some x)(b:N[j]? = some x):i=j:=by obtain⟨h1,e1⟩:=z5s.mp a;obtain⟨h2,e2⟩:=z5s.mp b;exact(qba hN).mp (e1.trans e2.symm)
theorem zgg{M:Model}{A:Around}{E:zVP}{i:Nat}{x:Str}{v:V}{u:Value}{Q:Unit->Shared->Prop}(I:Inv X pins σ H s)(hN:X.N.Nodup)(hi:X.N[i]? = some x)(hx:Loc X.env.scope x)(r:RelV v u)
   (h:∀s',Inv X pins (σ.set i (some v)) H s'->(∃a,Heap.SameBut a s.heap s'.heap/\(a=X.env.locals\/X.env.cells.lookup x=some a))->Q () s') (hf:X.fn x=true\/X.env.scope.names.lookup x=some .local:=by first | exact .inl rfl | exact .inr rfl | assumption):wpAny M A (storeName X.env x u) Q E s:=by
 obtain⟨m,hn,hl⟩:=id I.loc;have hcls:(X.env.scope.kind==.class||(X.env.scope.kind==.module&&X.env.locals != X.env.globals))=false:=by rw[I.ok.kind];rfl
 have hiσ:i<σ.length:=by rw[I.len];exact(z5s.mp hi).1
 have cne:=I.cne;have tracked:∀{a:Addr}{h':Heap},(∃o,s.heap.get? a=some o/\H a=none)->Heap.SameBut a s.heap h'->HOk X.prog X.w H h':=fun {a h'} ha hs b ob e=>by
   obtain⟨_,_,hfree⟩:=ha;refine(I.hok b ob e).stay (fun c w' hc q=>(hs.2 c ?_).trans q) (fun _ q=>q) fun _ _ q=>q;rintro rfl;rcases hc with rfl | hc
   · rw[hfree]at e;cases e
   · rw[hfree]at hc;cases hc
 rcases hx with hk | hk
 · refine wpAny_storeName_local hk hn (fun h' hn' hs=>?_) hcls;obtain⟨oL,_,_,hoL,_⟩:=id hn;refine h _ ⟨I.ok,I.os,I.bare,⟨fun b o e n hb hx=>?_,fun b o e n hb hx=>?_,I.base.free,fun b o e hx=>?_,I.base.tups,I.base.frzs,I.base.tbls⟩,⟨_,hn',fun j y v' e1 e2 e3=>?_⟩,fun y c e=>?_,I.free,I.freeC,fun p hp=>?_,tracked ⟨oL,hoL,I.free⟩ hs,by simpa using I.len⟩ ⟨_,hs,.inl rfl⟩
   · exact(hs.2 b (z56 (z5q (z58 e) I.ok.above))).trans (I.base.keep b o e n hb hx)
   · obtain⟨sl,e1⟩:=I.base.slot b o e n hb hx;exact⟨sl,(hs.2 b (z56 (z5q (z58 e) I.ok.above))).trans e1⟩
   · obtain⟨o',e1⟩:=I.base.there b o e hx;exact⟨o',(hs.2 b (z56 (z5q (z58 e) I.ok.above))).trans e1⟩
   · by_cases hj:j=i
     · subst hj;rw[hi]at e1;cases e1;rw[z6r hiσ]at e2;cases e2;exact⟨u,r,.inl ⟨hk,by simp⟩⟩
     · rw[z68 (z7s hj)]at e2;obtain⟨u',r',q⟩:=hl j y v' e1 e2 e3;refine⟨u',r',?_⟩;rcases q with⟨k,e⟩ | ⟨k,c,e,z⟩
       · refine .inl ⟨k,?_⟩;have:y≠x:=fun e=>hj (zfe hN e1 (e▸hi));simp[this,e]
       · exact .inr ⟨k,c,e,z.sameBut hs (cne y c e)⟩
   · obtain⟨w',z⟩:=I.cell y c e;exact⟨w',z.sameBut hs (cne y c e)⟩
   · obtain⟨e,n,ne,nf,d⟩:=I.pin p hp;exact⟨(hs.2 p.1 ne).trans e,n,ne,nf,d⟩
 · have hfn:X.fn x=true:=by
     rcases hf with z | z
     · exact z
     · rw[z]at hk;cases hk
   obtain⟨c,hc⟩:=I.ok.has x (.inl hk);obtain⟨w',z⟩:=I.cell x c hc;refine wpAny_storeName_cell I.ok.kind hk hc z (fun h' hc' hs=>?_);obtain⟨oc,hoc,hocd⟩:=id z;refine h { s with heap:=h' } ⟨I.ok,I.os,I.bare,⟨fun b o e n hb hx=>?_,fun b o e n hb hx=>?_,I.base.free,fun b o e hx=>?_,I.base.tups,I.base.frzs,I.base.tbls⟩,⟨m,hn.sameBut hs (z7s (cne x c hc)),fun j y v' e1 e2 e3=>?_⟩,fun y c' e=>?_,I.free,I.freeC,fun p hp=>?_,tracked ⟨oc,hoc,I.freeC x c hc⟩ hs,by simpa using I.len⟩ ⟨c,hs,.inr hc⟩
   · exact(hs.2 b (z56 (z5q (z58 e) (I.ok.cab x c hfn hc)))).trans (I.base.keep b o e n hb hx)
   · obtain⟨sl,e1⟩:=I.base.slot b o e n hb hx;exact⟨sl,(hs.2 b (z56 (z5q (z58 e) (I.ok.cab x c hfn hc)))).trans e1⟩
   · obtain⟨o',e1⟩:=I.base.there b o e hx;exact⟨o',(hs.2 b (z56 (z5q (z58 e) (I.ok.cab x c hfn hc)))).trans e1⟩
   · by_cases hj:j=i
     · subst hj;rw[hi]at e1;cases e1;rw[z6r hiσ]at e2;cases e2;exact⟨u,r,.inr ⟨.inl hk,c,hc,hc'⟩⟩
     · rw[z68 (z7s hj)]at e2;obtain⟨u',r',q⟩:=hl j y v' e1 e2 e3;refine⟨u',r',?_⟩;rcases q with q | ⟨k,c',e,z'⟩
       · exact .inl q
       · refine .inr ⟨k,c',e,z'.sameBut hs ?_⟩;rintro rfl;exact hj (zfe hN e1 (I.ok.inj _ _ _ e hc▸hi))
   · by_cases hcc:c'=c
     · subst hcc;exact⟨_,hc'⟩
     · obtain⟨w2,z2⟩:=I.cell y c' e;exact⟨w2,z2.sameBut hs hcc⟩
   · obtain⟨e,n,ne,nf,d⟩:=I.pin p hp;refine⟨(hs.2 p.1 ?_).trans e,n,ne,nf,d⟩;intro q;rw[q,hoc]at e;have q':oc=p.2:=z62 e;exact d w' (by rw[<-q'];exact hocd)
theorem zcp{M:Model}{A:Around}{E:zVP}{i:Nat}{x:Str}{v:V}{u:Value}{Q:Unit->Shared->Prop}(I:Inv X pins σ H s)(hN:X.N.Nodup)(hi:X.N[i]? = some x)(hx:Loc X.env.scope x)(r:RelV v u)
   (h:∀s',Inv X pins (σ.set i (some v)) H s'->Q () s') (hf:X.fn x=true\/X.env.scope.names.lookup x=some .local:=by first | exact .inl rfl | exact .inr rfl | assumption):wpAny M A (storeName X.env x u) Q E s :=
 zgg I hN hi hx r (fun s' I' _=>h s' I') hf
theorem Inv.call'{s':Shared}{ch:List Addr}(I:Inv X pins σ H s)(ho:s'.os=s.os)(u:Un (frs X.stack) ch H H' s.heap s'.heap)(hok:HOk X.prog X.w H' s'.heap)(hg:AllBare s'.gens)
   (hch:∀b∈ch,(b∈X.ex\/X.s₀.heap.objs.size<=b)/\b≠X.env.locals/\(∀x c,X.env.cells.lookup x=some c->c≠b)/\∀p∈X.pn++pins,p.1≠b):Inv X pins σ H' s':=by
 obtain⟨h',g',d',t',o'⟩:=s';have e:o'=s.os:=ho;subst e;exact I.call (g':=g') (t':=t') (d':=d') u hok hg hch
end
abbrev XK:=Value->Option Addr->Hp->Prop
abbrev St:=List (Option V)
abbrev VK:=V->Hp->Prop
abbrev TE:=St->Hp->VK->Prop
abbrev TT:=St->Hp->(Bool->Hp->Prop)->Prop
abbrev TA:=St->Hp->(List V->Hp->Prop)->Prop
structure Ends where
 nx:St->Hp->Prop
 rt:VK
 bk:St->Hp->Prop:=fun _ _=>False
 ct:St->Hp->Prop:=fun _ _=>False
abbrev TS:=Ends->St->Hp->Prop
def EP(X:Cx)(pins:zAO)(σ:St)(Q:VK)(u:Value)(s':Shared):Prop:=∃v H',Inv X pins σ H' s'/\RelV v u/\Q v H'
def TP(X:Cx)(pins:zAO)(σ:St)(Q:Bool->Hp->Prop)(b:Bool)(s':Shared):Prop:=∃H',Inv X pins σ H' s'/\Q b H'
def AP(X:Cx)(pins:zAO)(σ:St)(Q:List V->Hp->Prop)(us:List Value)(s':Shared):Prop:=∃vs H',Inv X pins σ H' s'/\Vals vs us/\Q vs H'
def SP(X:Cx)(pins:zAO)(D:Ends)(f:Flow)(s':Shared):Prop :=
 match f with
 | .next=>∃σ' H',Inv X pins σ' H' s'/\D.nx σ' H'
 | .brk=>∃σ' H',Inv X pins σ' H' s'/\D.bk σ' H'
 | .cont=>∃σ' H',Inv X pins σ' H' s'/\D.ct σ' H'
 | .ret u=>∃v σ' H',Inv X pins σ' H' s'/\RelV v u/\D.rt v H'
def PE(X:Cx)(e:Expr)(t:TE):Prop :=
 ∀(pins:zAO) (s:Shared) (σ:St) (H:Hp) (Q:VK),Inv X pins σ H s->t σ H Q->wpAny (model X.prog X.w) X.A (eval e X.env) (EP X pins σ Q) X.xe s
def PT(X:Cx)(e:Expr)(t:TT):Prop :=
 ∀(pins:zAO) (s:Shared) (σ:St) (H:Hp) (Q:Bool->Hp->Prop),Inv X pins σ H s->t σ H Q->wpAny (model X.prog X.w) X.A (isTrue e X.env (eval e X.env)) (TP X pins σ Q) X.xe s
def PW(X:Cx)(e:Expr)(t:TT):Prop :=
 ∀(whole:Sem Value) (pins:zAO) (s:Shared) (σ:St) (H:Hp) (Q:Bool->Hp->Prop),Inv X pins σ H s->t σ H Q->wpAny (model X.prog X.w) X.A (isTrue e X.env whole) (TP X pins σ Q) X.xe s
theorem PW.pt{X:Cx}{e:Expr}{t:TT}(h:PW X e t):PT X e t:=h _
def PA(X:Cx)(es:List Expr)(t:TA):Prop :=
 ∀(pos:Pos) (pins:zAO) (s:Shared) (σ:St) (H:Hp) (Q:List V->Hp->Prop),Inv X pins σ H s->t σ H Q->wpAny (model X.prog X.w) X.A (spliced (backTo pos (starEach es X.env))) (AP X pins σ Q) X.xe s
def PS(X:Cx)(st:Stmt)(t:TS):Prop :=
 ∀(pins:zAO) (s:Shared) (σ:St) (H:Hp) (D:Ends),Inv X pins σ H s->t D σ H->wpAny (model X.prog X.w) X.A (exec st X.env) (SP X pins D) X.xe s
def PSs(X:Cx)(st:List Stmt)(t:TS):Prop :=
 ∀(pins:zAO) (s:Shared) (σ:St) (H:Hp) (D:Ends),Inv X pins σ H s->t D σ H->wpAny (model X.prog X.w) X.A (execs st X.env) (SP X pins D) X.xe s
theorem thn{α:Type}{t:Sem α}{Q Q':α->Shared->Prop}{M:Model}{A:Around}{E:zVP}{s:Shared}(h:wpAny M A t Q E s)(hQ:∀a s,Q a s->Q' a s):wpAny M A t Q' E s:=z73 h hQ fun _ _ x=>x
section
variable {X:Cx}
def z4m(i:Nat):TE:=fun σ H Q=>∃v,σ[i]? = some (some v)/\Q v H
def tC(v:V):TE:=fun _ H Q=>Q v H
theorem zy0{i:Nat}{x:Str}{pos:Pos}(hN:X.N[i]? = some x)(hv:Vis X.env.scope x)(hd:(x==("__debug__":Str))=false:=by decide)(hcd:(x==("__classdict__":Str))=false:=by decide):PE X (.Name x pos) (z4m i):=by
 intro pins s σ H Q I h;obtain⟨v,e,h⟩:=h;obtain⟨m,hn,hl⟩:=I.loc;obtain⟨u,r,l⟩:=hl i x v hN e hv;have fin:EP X pins σ Q u s:=⟨v,H,I,r,h⟩
 rcases l with⟨hk,hm⟩ | ⟨hk,c,hc,hcell⟩
 · exact wpAny_Name (wpAny_loadName_local I.ok.kind hk hn hm fin) hd
 · rcases hk with hk | hk
   · exact wpAny_Name (wpAny_loadName_cell I.ok.kind hk hc hcell fin) hd
   · exact wpAny_Name (wpAny_loadName_free I.ok.kind hk hc hcell fin hcd) hd
theorem zy6{i j pos}:PE X (.Constant (.int i) j pos) (tC (.int i)):=fun _ _ _ H _ I h=>wpAny_Constant_int ⟨.int i,H,I.tok _,⟨_,rfl⟩,h⟩
theorem z2x{b j pos}:PE X (.Constant (.bool b) j pos) (tC (.bl b)):=fun _ _ _ H _ I h=>Constant_bool ⟨.bl b,H,I,rfl,h⟩
theorem zy5{j pos}:PE X (.Constant .none j pos) (tC .non):=fun _ _ _ H _ I h=>Constant_none ⟨.non,H,I,rfl,h⟩
theorem zy2{x j pos}:PE X (.Constant (.str x) j pos) (tC (.str x)):=fun _ _ _ H _ I h=>Calls.Constant_str ⟨.str x,H,I.tok _,⟨_,rfl⟩,h⟩
def Gl(X:Cx)(x:Str):Prop:=X.env.kindOf x=some .globalImplicit
theorem y9{E:zVP}{pins:zAO}{s:Shared}{σ:St}{H:Hp}{x:Str}{u:Value}{pos:Pos}{Q:zVP}(I:Inv X pins σ H s)(hg:Gl X x)(hm:X.mg x=some u)(h:Q u s)
   (hd:(x==("__debug__":Str))=false:=by decide):wpAny (model X.prog X.w) X.A (eval (.Name x pos) X.env) Q E s :=
 Calls.Name_function_global I.ok.kind hg (Calls.loadGlobal_global (by rw[I.ok.glob];exact I.mod.glob.keeps I.bk) hm h) hd
theorem zgz{E:zVP}{pins:zAO}{s:Shared}{σ:St}{H:Hp}{x:Str}{u:Value}{pos:Pos}{Q:zVP}(I:Inv X pins σ H s)(hg:Gl X x)(hm:X.mg x=none)(hv:bootBuiltins x=some u)(h:Q u s)
   (hn:x≠"__name__":=by decide) (hd:(x==("__debug__":Str))=false:=by decide):wpAny (model X.prog X.w) X.A (eval (.Name x pos) X.env) Q E s:=by
 obtain⟨mb,h1,h2⟩:=I.mod.blt;exact Calls.Name_function_global I.ok.kind hg (Calls.loadGlobal_builtin (by rw[I.ok.glob];exact I.mod.glob.keeps I.bk) hm (by rw[I.ok.blt];exact h1.keeps I.bk) ((h2 x hn).trans hv) h) hd
theorem znr{x:Str}{v:V}{u:Value}{pos:Pos}(hg:Gl X x)(hm:X.mg x=some u)(r:RelV v u)(hd:(x==("__debug__":Str))=false:=by decide):PE X (.Name x pos) (tC v) :=
 fun _ _ _ H _ I h=>y9 I hg hm ⟨v,H,I,r,h⟩ hd
theorem zvr{x:Str}{v:V}{u:Value}{pos:Pos}(hg:Gl X x)(hm:X.mg x=none)(hv:bootBuiltins x=some u)(r:RelV v u)(hn:x≠"__name__":=by decide)(hd:(x==("__debug__":Str))=false:=by decide):PE X (.Name x pos) (tC v) :=
 fun _ _ _ H _ I h=>zgz I hg hm hv ⟨v,H,I,r,h⟩ hn hd
variable {a b:Expr}{ta tb:TE}{pos:Pos}
def PC(X:Cx)(op:CmpOp)(a b:Expr)(t:TE):Prop :=
 ∀(pins:zAO) (s:Shared) (σ:St) (H:Hp) (Q:VK),Inv X pins σ H s->t σ H Q ->
   wpAny (model X.prog X.w) X.A (eval a X.env) (fun v s₁=>wpAny (model X.prog X.w) X.A (eval b X.env) (fun u s₂=>wpAny (model X.prog X.w) X.A (compareOp op v u) (EP X pins σ Q) X.xe s₂) X.xe s₁) X.xe s
def tB(t:TE):TT:=fun σ H Q=>t σ H fun x H1=>∃c,x=.bl c/\Q c H1
theorem zyq{op:CmpOp}{t:TE}(h:PC X op a b t)(h1:behindInMarks op b=false:=by first | exact nobehind _ (by decide) (by decide) | rfl):PT X (.Compare a [op] [b] pos) (tB t):=by intro pins s σ H Q I hw;refine wpAny_isTrue_Compare1 (thn (h pins s σ H _ I hw) fun v s1 h1=>thn h1 fun u s2 h2=>thn h2 fun c s3 ⟨x,H1,I1,r1,q1⟩=>?_) h1;obtain⟨d,rfl,q⟩:=q1;cases r1;exact z7h ⟨H1,I1,q⟩
theorem zyo{e:Expr}{t:TE}(h:PE X e t)(he:∀whole,isTrue e X.env whole=(do let v <-whole;standAt e.pos;holding [v] (truthy v)):=by intro _;rfl):PT X e (tB t):=by intro pins s σ H Q I hw;refine isTrue_plain (thn (h pins s σ H _ I hw) fun v s1 ⟨x,H1,I1,r1,q1⟩=>?_) (he _);obtain⟨d,rfl,q⟩:=q1;cases r1;exact z7h ⟨H1,I1,q⟩
variable {tA tB':TT}{rest:List Expr}
def z4w(t u:TT):TT:=fun σ H Q=>t σ H fun c H1=>if c=true then u σ H1 Q else Q false H1
def tOr(t u:TT):TT:=fun σ H Q=>t σ H fun c H1=>if c=true then Q true H1 else u σ H1 Q
def z4q(t:TT):TT:=fun σ H Q=>t σ H fun c H1=>Q (!c) H1
theorem zvb(ha:PT X a tA):PW X (.BoolOp .And [a] pos) tA:=by
 intro wh pins s σ H Q I h;refine isTrue_and (thn (ha pins s σ H Q I h) fun c s1 e=>?_);cases c with
 |true=>exact isTrue_and_nil e
 |false=>exact e
theorem zyj(ha:PT X a tA):PW X (.BoolOp .Or [a] pos) tA:=by
 intro wh pins s σ H Q I h;refine isTrue_or (thn (ha pins s σ H Q I h) fun c s1 e=>?_);cases c with
 |false=>exact isTrue_or_nil e
 |true=>exact e
theorem zyl(ha:PT X a tA)(hb:PW X (.BoolOp .And (b::rest) pos) tB'):PW X (.BoolOp .And (a::b::rest) pos) (z4w tA tB'):=by
 intro wh pins s σ H Q I h;refine isTrue_and (thn (ha pins s σ H _ I h) fun c s1 ⟨H1,I1,q1⟩=>?_);cases c with
 |true=>exact hb wh pins s1 σ H1 Q I1 q1
 |false=>exact⟨H1,I1,q1⟩
theorem z2p(ha:PT X a tA)(hb:PW X (.BoolOp .Or (b::rest) pos) tB'):PW X (.BoolOp .Or (a::b::rest) pos) (tOr tA tB'):=by
 intro wh pins s σ H Q I h;refine isTrue_or (thn (ha pins s σ H _ I h) fun c s1 ⟨H1,I1,q1⟩=>?_);cases c with
 |true=>exact⟨H1,I1,q1⟩
 |false=>exact hb wh pins s1 σ H1 Q I1 q1
theorem zyp(ha:PT X a tA):PT X (.UnaryOp .Not a pos) (z4q tA):=by intro pins s σ H Q I h;exact isTrue_not (ha pins s σ H (fun c H1=>Q (!c) H1) I h)
def z2i(ta tb:TE):TE:=fun σ H Q=>ta σ H fun x H1=>∃c,x=.bl c/\if c=true then tb σ H1 Q else Q (.bl false) H1
def z2c(ta:TE):TE:=fun σ H Q=>ta σ H fun x H1=>∃c,x=.bl c/\Q (.bl (!c)) H1
theorem zy3{op}{t:TE}(h:PE X a t):PE X (.BoolOp op [a] pos) t:=fun pins s σ H Q I hw=>BoolOp_one (h pins s σ H Q I hw)
theorem zy9(ha:PE X a ta)(hb:PE X (.BoolOp .And (b::rest) pos) tb):PE X (.BoolOp .And (a::b::rest) pos) (z2i ta tb):=by
 intro pins s σ H Q I h;refine BoolOp_and (thn (ha pins s σ H _ I h) fun v s1 ⟨x,H1,I1,r1,q1⟩=>?_);obtain⟨c,rfl,q1⟩:=q1;cases r1;refine z7h ?_;cases c with
 |true=>exact hb pins s1 σ H1 Q I1 q1
 |false=>exact⟨.bl false,H1,I1,rfl,q1⟩
theorem zy4(ha:PE X a ta):PE X (.UnaryOp .Not a pos) (z2c ta):=by intro pins s σ H Q I h;refine UnaryOp_ (thn (ha pins s σ H _ I h) fun v s1 ⟨x,H1,I1,r1,q1⟩=>?_);obtain⟨c,rfl,q1⟩:=q1;cases r1;exact not_of (z7h ⟨.bl (!c),H1,I1,rfl,q1⟩)
end
def SqL(K:zFr)(H:Hp)(a:Addr)(xs:List V):Prop :=
 Rd H a (.lst xs) \/
   ∃(o:Obj) (its:Array Value) (n:Nat),K.lookup a=some o/\o.cls=.type "list"/\o.dict=none/\o.data=.seq its n/\its.size<=sizeLine/\Vals xs its.toList
def SqT(K:zFr)(H:Hp)(a:Addr)(xs:List V):Prop :=
 Rd H a (.tup xs) \/
   ∃(o:Obj) (its:Array Value) (n:Nat),K.lookup a=some o/\o.cls=.type "tuple"/\o.data=.seq its n/\its.size<=sizeLine/\Vals xs its.toList
def z5i:Value->Option V
 | .none=>some .non
 | .bool b=>some (.bl b)
 | .int i _=>some (.int i)
 | .str x _=>some (.str x)
 | .bytes b _=>some (.byt b)
 | .float b _=>some (.flt b)
 | .ref a=>some (.ref a)
 | .type n=>some (.ty n)
 |_=>none
theorem RelV.abs{x:V}{u:Value}(r:RelV x u):z5i u=some x:=by
 cases x with
 |non=>cases r;rfl
 |bl _=>cases r;rfl
 |int _=>obtain⟨t,rfl⟩:=r;rfl
 |str _=>obtain⟨t,rfl⟩:=r;rfl
 |byt _=>obtain⟨t,rfl⟩:=r;rfl
 |flt _=>obtain⟨t,rfl⟩:=r;rfl
 |ref _=>cases r;rfl
 |ty _=>cases r;rfl
theorem RelV.inj{x y:V}{u:Value}(r:RelV x u)(q:RelV y u):x=y:=z62 (r.abs.symm.trans q.abs)
theorem Vals.inj:∀{xs ys:List V}{us:List Value},Vals xs us->Vals ys us->xs=ys
 |_,_,_,.nil,.nil=>rfl
 |_,_,_,.cons r t,.cons r' t'=>by rw[r.inj r',Vals.inj t t']
section
variable {X:Cx}{pins:zAO}{σ:St}{H:Hp}{s:Shared}{a:Addr}{xs ys:List V}
theorem SqL.of{K:zFr}(h:H a=some (.lst xs)):SqL K H a xs:=.inl (.inl h)
theorem Inv.list(I:Inv X pins σ H s)(h:SqL X.K H a xs):∃its:List Value,Vals xs its/\PlainL s.heap a its.toArray/\xs.length<=sizeLine:=by
 rcases h with h | ⟨o,its,n,hk,hc,hd,hs,hz,r⟩
 · obtain⟨z,its,n,r,e⟩:=h.ok I.hok;exact⟨its,r,⟨_,n,e,rfl,rfl,rfl⟩,z⟩
 · refine⟨its.toList,r,⟨o,n,I.kIn a o hk,hc,hd,by simpa using hs⟩,?_⟩;have e:=r.length;simp only[Array.length_toList]at e;omega
theorem Inv.tuple(I:Inv X pins σ H s)(h:SqT X.K H a xs):∃its:List Value,Vals xs its/\IsTup s.heap a its.toArray/\xs.length<=sizeLine:=by
 rcases h with h | ⟨o,its,n,hk,hc,hs,hz,r⟩
 · obtain⟨z,its,r,p⟩:=h.ok I.hok;exact⟨its,r,p,z⟩
 · refine⟨its.toList,r,⟨o,I.kIn a o hk,hc,n,by simpa using hs⟩,?_⟩;have e:=r.length;simp only[Array.length_toList]at e;omega
theorem Inv.list_inj(I:Inv X pins σ H s)(h:SqL X.K H a xs)(h':SqL X.K H a ys):xs=ys:=by
 obtain⟨its,r,⟨o,n,e,_,_,d⟩,_⟩:=I.list h;obtain⟨its',r',⟨o',n',e',_,_,d'⟩,_⟩:=I.list h';rw[e]at e';cases e';rw[d]at d';injection d' with d1 _;have:its=its':=by simpa using z7k Array.toList d1
 subst this;exact r.inj r'
theorem Inv.tuple_inj(I:Inv X pins σ H s)(h:SqT X.K H a xs)(h':SqT X.K H a ys):xs=ys:=by
 obtain⟨its,r,⟨o,e,_,n,d⟩,_⟩:=I.tuple h;obtain⟨its',r',⟨o',e',_,n',d'⟩,_⟩:=I.tuple h';rw[e]at e';cases e';rw[d]at d';injection d' with d1 _;have:its=its':=by simpa using z7k Array.toList d1
 subst this;exact r.inj r'
end
abbrev Cx.wish(X:Cx)(E:zVP):Cx:={ X with xe:=E }
abbrev Cx.nox(X:Cx):Cx:=X.wish fun _ _=>False
theorem Cx.Ok.wish{X:Cx}(ok:X.Ok)(E:zVP):(X.wish E).Ok :=
 ⟨ok.mod,ok.kind,ok.glob,ok.blt,ok.above,ok.inj,ok.has,ok.cab,ok.hd,ok.frames,ok.stk,ok.exf,ok.bs,ok.bsz,ok.noex,ok.exfs,ok.funs,ok.frf⟩
theorem Cx.Ok.unwish{X:Cx}{E:zVP}(ok:(X.wish E).Ok):X.Ok :=
 ⟨ok.mod,ok.kind,ok.glob,ok.blt,ok.above,ok.inj,ok.has,ok.cab,ok.hd,ok.frames,ok.stk,ok.exf,ok.bs,ok.bsz,ok.noex,ok.exfs,ok.funs,ok.frf⟩
section
variable {X:Cx}{pins:zAO}{σ:St}{H:Hp}{s:Shared}{E:zVP}
theorem Inv.wish(I:Inv X pins σ H s)(E:zVP):Inv (X.wish E) pins σ H s:=⟨I.ok.wish E,I.os,I.bare,I.base,I.loc,I.cell,I.free,I.freeC,I.pin,I.hok,I.len⟩
theorem Inv.unwish(I:Inv (X.wish E) pins σ H s):Inv X pins σ H s:=⟨I.ok.unwish,I.os,I.bare,I.base,I.loc,I.cell,I.free,I.freeC,I.pin,I.hok,I.len⟩
theorem SP.unwish{D:Ends}{f:Flow}{s':Shared}(h:SP (X.wish E) pins D f s'):SP X pins D f s':=by
 cases f with
 |next=>obtain⟨σ',H',I,q⟩:=h;exact⟨σ',H',I.unwish,q⟩
 |brk=>obtain⟨σ',H',I,q⟩:=h;exact⟨σ',H',I.unwish,q⟩
 |cont=>obtain⟨σ',H',I,q⟩:=h;exact⟨σ',H',I.unwish,q⟩
 |ret u=>obtain⟨v,σ',H',I,r,q⟩:=h;exact⟨v,σ',H',I.unwish,r,q⟩
theorem PE.nox{e:Expr}{t:TE}(h:PE X.nox e t):PE X e t:=fun pins s σ H Q I hw=>
 z73 (h pins s σ H Q (I.wish _) hw) (fun _ _ ⟨v,H',I',r,q⟩=>⟨v,H',I'.unwish,r,q⟩) fun _ _ z=>False.elim z
theorem PSs.nox{st:List Stmt}{t:TS}(h:PSs X.nox st t):PSs X st t:=fun pins s σ H D I hw=>
 z73 (h pins s σ H D (I.wish _) hw) (fun _ _ q=>q.unwish) fun _ _ z=>False.elim z
end
section
variable {X:Cx}{st:Stmt}{rest:List Stmt}{t u:TS}{e:Expr}{te:TE}{pos:Pos}
def z2e:TS:=fun D σ H=>D.nx σ H
def z4o(t u:TS):TS:=fun D σ H=>t { D with nx:=u D } σ H
theorem zvf:PSs X [] z2e:=fun _ _ σ H _ I h=>z9q ⟨σ,H,I,h⟩
theorem zq6(h1:PS X st t)(h2:PSs X rest u):PSs X (st::rest) (z4o t u):=by
 intro pins s σ H D I h;refine z8a (thn (h1 pins s σ H { D with nx:=u D } I h) fun f s1 q=>?_);cases f with
 | next=>
   obtain⟨σ',H',I',q⟩:=q;exact h2 pins s1 σ' H' D I' q
 |ret v=>exact q
 |brk=>exact q
 |cont=>exact q
theorem zve(h1:PS X st t):PSs X [st] t:=by
 intro pins s σ H D I h;refine z8a (thn (h1 pins s σ H D I h) fun f s1 q=>?_);cases f with
 |next=>exact z9q q
 |ret v=>exact q
 |brk=>exact q
 |cont=>exact q
theorem Inv.quiet{pins:zAO}{σ:St}{H:Hp}{s:Shared}(I:Inv X pins σ H s):interactive X.env=false:=by simp[interactive,I.ok.kind]
def z2g(te:TE):TS:=fun D σ H=>te σ H fun _ H1=>D.nx σ H1
theorem zno(he:PE X e te)(hs:swapsWith e none pos.line X.env=pure false:=by rfl):PS X (.Expr e pos) (z2g te):=by intro pins s σ H D I h;exact wpAny_Expr_any (thn (he pins s σ H _ I h) fun v s1 ⟨x,H1,I1,r1,q1⟩=>⟨σ,H1,I1,q1⟩) I.quiet hs
def z4p(te:TE):TS:=fun D σ H=>te σ H D.rt
theorem zys(he:PE X e te):PS X (.Return (some e) pos) (z4p te):=by intro pins s σ H D I h;exact qa3 (thn (he pins s σ H _ I h) fun v s1 ⟨x,H1,I1,r1,q1⟩=>⟨x,σ,H1,I1,r1,q1⟩)
def z2a:TS:=fun D _ H=>D.rt .non H
theorem zvg:PS X (.Return none pos) z2a:=fun _ _ σ H _ I h=>wpAny_Return_none ⟨.non,σ,H,I,rfl,h⟩
def z4s(c:TT)(t u:TS):TS:=fun D σ H=>c σ H fun b H1=>if b=true then t D σ H1 else u D σ H1
theorem z2s{c:Expr}{a b:List Stmt}{tc:TT}(hc:PT X c tc)(ha:PSs X a t)(hb:PSs X b u):PS X (.If c a b pos) (z4s tc t u):=by
 intro pins s σ H D I h;refine wpAny_If (thn (hc pins s σ H _ I h) fun d s1 ⟨H1,I1,q1⟩=>?_);cases d with
 |true=>exact ha pins s1 σ H1 D I1 q1
 |false=>exact hb pins s1 σ H1 D I1 q1
def zx0:TS:=fun _ _ _=>False
theorem zq8:PS X st zx0:=fun _ _ _ _ _ _ h=>h.elim
end
abbrev TG:=V->St->Hp->(St->Hp->Prop)->Prop
abbrev TGs:=List V->St->Hp->(St->Hp->Prop)->Prop
def PG(X:Cx)(target:Expr)(t:TG):Prop :=
 ∀(pins:zAO) (s:Shared) (σ:St) (H:Hp) (v:V) (u:Value) (Q:St->Hp->Prop),Inv X pins σ H s->RelV v u->t v σ H Q ->
   wpAny (model X.prog X.w) X.A (assign target X.env u) (fun _ s'=>∃σ' H',Inv X pins σ' H' s'/\Q σ' H') X.xe s
def PGs(X:Cx)(ts:List Expr)(t:TGs):Prop :=
 ∀(pins:zAO) (s:Shared) (σ:St) (H:Hp) (vs:List V) (us:List Value) (Q:St->Hp->Prop),Inv X pins σ H s->Vals vs us->t vs σ H Q ->
   wpAny (model X.prog X.w) X.A (assignInOrder ((assignEach ts X.env).map (·.2)) us) (fun _ s'=>∃σ' H',Inv X pins σ' H' s'/\Q σ' H') X.xe s
section
variable {X:Cx}{pos:Pos}
def zg5(i:Nat):TG:=fun v σ H Q=>Q (σ.set i (some v)) H
theorem zfd{i:Nat}{x:Str}(hN:X.N.Nodup)(hi:X.N[i]? = some x)(hx:Loc X.env.scope x)(hf:X.fn x=true\/X.env.scope.names.lookup x=some .local:=by first | exact .inl rfl | exact .inr rfl | assumption):PG X (.Name x pos) (zg5 i):=by intro pins s σ H v u Q I r h;exact wpAny_assign_Name (zcp I hN hi hx r (fun s' I'=>⟨_,H,I',h⟩) hf)
def z4g:TGs:=fun vs σ H Q=>vs=[]/\Q σ H
def zrv(t:TG)(u:TGs):TGs:=fun vs σ H Q=>∃v r,vs=v::r/\t v σ H fun σ' H'=>u r σ' H' Q
theorem zvn:PGs X [] z4g:=by intro pins s σ H vs us Q I r h;obtain⟨e,h⟩:=h;subst e;cases r;exact assignInOrder_nil ⟨σ,H,I,h⟩
theorem zrb{e:Expr}{es:List Expr}{t:TG}{u:TGs}(h1:PG X e t)(h2:PGs X es u)
   (hs:(assignEach (e::es) X.env).map (·.2)=assign e X.env::(assignEach es X.env).map (·.2):=by rfl):PGs X (e::es) (zrv t u):=by
 intro pins s σ H vs us Q I r h;obtain⟨v,vr,e1,h⟩:=h;subst e1;cases r with
 | cons r rr=>
   rw[hs];refine assignInOrder_cons (thn (h1 pins s σ H _ _ _ I r h) fun _ s1 ⟨σ1,H1,I1,q1⟩=>?_);exact h2 pins s1 σ1 H1 _ _ Q I1 rr q1
def z48(K:zFr)(n:Nat)(t:TGs):TG:=fun v σ H Q=>∃a xs,v=.ref a/\SqT K H a xs/\xs.length=n/\t xs σ H Q
theorem zyz{es:List Expr}{k:Nat}{t:TGs}{n:Nat}(hc:X.calm=true)(h:PGs X es t)
   (hn:(assignEach es X.env).length=n:=by rfl) (hst:(assignEach es X.env).findIdx? (·.1)=none:=by rfl):PG X (.Tuple es k pos) (z48 X.K n t):=by
 intro pins s σ H v u Q I r hw;obtain⟨a,xs,e1,hq,hl,hw⟩:=hw;subst e1;cases r;obtain⟨its,rv,ht,hz⟩:=I.tuple hq;refine assign_Tuple_tuple (I.ok.hd hc) ht (by simp[hn,<-hl,rv.length]) hst fun h' hx=>?_;have I1:Inv X pins σ H { s with heap:=h' }:=I.kept (t':=s.toks) fun b o e=>hx b o (z56 (z58 e)) e;exact h pins _ σ H xs _ Q I1 (by simpa using rv) hw
def z4v(te:TE)(g:TG):TS:=fun D σ H=>te σ H fun x H1=>g x σ H1 D.nx
theorem zyr{i:Nat}{x:Str}{e:Expr}{te:TE}{pos':Pos}(hN:X.N.Nodup)(hi:X.N[i]? = some x)(hx:Loc X.env.scope x)(he:PE X e te)(hs:swapsWith e (some (.Name x pos')) pos.line X.env=pure false:=by rfl)(hf:X.fn x=true\/X.env.scope.names.lookup x=some .local:=by first | exact .inl rfl | exact .inr rfl | assumption) :
   PS X (.Assign [.Name x pos'] e pos) (z4v te (zg5 i)):=by
 intro pins s σ H D I h;refine wpAny_Assign_Name (thn (he pins s σ H _ I h) fun v s1 ⟨y,H1,I1,r1,q1⟩=>?_) hs;exact zcp I1 hN hi hx r1 (fun s2 I2=>⟨_,H1,I2,q1⟩) hf
end
section
variable {X:Cx}{pos:Pos}
def zxz(c:TT)(tb:TS):TS:=fun D σ H=>∃W:Nat->St->Hp->Prop,(∃m,W m σ H)/\∀m σ H,W m σ H ->
 c σ H fun b H1=>if b=true then ∃N:St->Hp->Prop,(∀σ' H',N σ' H'->∃m',m'<m/\W m' σ' H')/\tb { D with nx:=N,ct:=N,bk:=D.nx } σ H1 else D.nx σ H1
theorem zq7{c:Expr}{body:List Stmt}{tc:TT}{tb:TS}(hp:PassesOwn (model X.prog X.w) X.A X.env X.xe)(hc:PT X c tc)(hb:PSs X body tb):PS X (.While c body [] pos) (zxz tc tb):=by
 intro pins s σ H D I h;obtain⟨W,⟨m0,w0⟩,turn⟩:=h;refine wpAny_While (codeAny_whileLoop (fun n s'=>∃σ' H',Inv X pins σ' H' s'/\W n σ' H') ?_ m0 ⟨σ,H,I,w0⟩);rintro n s1 ⟨σ1,H1,I1,w1⟩;refine z8l hp (thn (hc pins s1 σ1 H1 _ I1 (turn n σ1 H1 w1)) fun b s2 ⟨H2,I2,q2⟩=>?_);cases b with
 | true=>
   obtain⟨N,hN,q2⟩:=q2;rw[z55 rfl];refine z8l hp (thn (hb pins s2 σ1 H2 _ I2 q2) fun f s3 q3=>?_);cases f with
   | next=>
     obtain⟨σ3,H3,I3,n3⟩:=q3;obtain⟨m',hm,w3⟩:=hN σ3 H3 n3;exact⟨m',hm,σ3,H3,I3,w3⟩
   | cont=>
     obtain⟨σ3,H3,I3,n3⟩:=q3;obtain⟨m',hm,w3⟩:=hN σ3 H3 n3;exact⟨m',hm,σ3,H3,I3,w3⟩
   |brk=>exact q3
   |ret v=>exact q3
 | false=>
   rw[z6c z7a];exact z9q ⟨σ1,H2,I2,q2⟩
end
structure It where
 go:Nat->Hp->Prop
 yld:Nat->Hp->V->Hp->Prop
 stop:Nat->Hp->Prop
def zmb(X:Cx)(pins:zAO)(H:Hp)(b:Addr):Prop :=
 H b=none/\b≠X.env.locals/\b∉X.fs/\(b∈X.ex\/X.s₀.heap.objs.size<=b)/\(∀x c,X.env.cells.lookup x=some c->c≠b)/\∀p∈X.pn++pins,p.1≠b
theorem Inv.fpOk{X:Cx}{pins:zAO}{σ:St}{H H':Hp}{s:Shared}{b:Addr}(I:Inv X pins σ H s)(hb:s.heap.objs.size<=b)(hn:H' b=none):zmb X pins H' b:=by
 refine⟨hn,Nat.ne_of_gt (z5q I.lt hb),I.nofs hb,.inr (z6h I.sz hb),fun x c e z=>?_,fun p hp z=>?_⟩
 · obtain⟨v,q⟩:=I.cell x c e;exact absurd (z5q q.lt (by rw[z];exact hb)) (z72 _)
 · exact absurd (z5q (z58 (I.pin p hp).1) (by rw[z];exact hb)) (z72 _)
structure Turn (P:Program) (w:World) (K:zFr) (tg:Expr) (J:It) (fp:List Addr) (it:Addr) (tn:Nat->Heap->Prop):Prop where
 mem:it∈fp
 obj:∀i h,tn i h->∀b∈fp,∃o,h.get? b=some o/\∀v,o.data≠.cell v
 keep:∀i h h',tn i h->(∀b∈fp,∀o,h.get? b=some o->h'.get? b=some o)->tn i h'
 item:∀(X:Cx),X.prog=P->X.w=w->X.K=K->X.calm=true->∀(i:Nat) (pins:zAO) (s:Shared) (σ:St) (H:Hp) (E:zVP),Inv X pins σ H s->(∀b∈fp,zmb X pins H b)->tn i s.heap->J.go i H ->
   wpAny (model P w) X.A (pyNext (.ref it)) (fun r s1=>∃u,r=some u /\
     wpAny (model P w) X.A (letOwnedTupleGo tg (.ref it) u) (fun _ s2=>∃x H',Inv X pins σ H' s2/\RelV x u/\J.yld i H x H'/\tn (i+1) s2.heap/\∀b∈fp,H' b=none) E s1) E s
 done:∀(X:Cx),X.prog=P->X.w=w->X.K=K->X.calm=true->∀(i:Nat) (pins:zAO) (s:Shared) (σ:St) (H:Hp) (E:zVP),Inv X pins σ H s->(∀b∈fp,zmb X pins H b)->tn i s.heap->J.stop i H ->
   wpAny (model P w) X.A (pyNext (.ref it)) (fun r s1=>r=none/\Inv X pins σ H s1) E s
 self:∀(A:Around) (i:Nat) (s:Shared) (Q:zVP) (E:zVP),tn i s.heap->Q (.ref it) s->wpAny (model P w) A (pyIter (.ref it)) Q E s
abbrev TI:=St->Hp->(It->Hp->Prop)->Prop
def PIE(X:Cx)(pins:zAO)(σ:St)(tg:Expr)(R:It->Hp->Prop)(itv:Value)(s2:Shared):Prop :=
 ∃(it:Addr) (fp:List Addr) (tn:Nat->Heap->Prop) (J:It) (H':Hp),itv=.ref it/\Inv X pins σ H' s2/\Turn X.prog X.w X.K tg J fp it tn/\tn 0 s2.heap/\(∀b∈fp,zmb X pins H' b)/\R J H'
def PI(X:Cx)(tg iter:Expr)(wi:TI):Prop :=
 ∀(pins:zAO) (s:Shared) (σ:St) (H:Hp) (R:It->Hp->Prop),Inv X pins σ H s->wi σ H R ->
   wpAny (model X.prog X.w) X.A (eval iter X.env) (fun v s1=>wpAny (model X.prog X.w) X.A (pyIter v) (PIE X pins σ tg R) X.xe s1) X.xe s
theorem zwb{M:Model}{A:Around}{E:zVP}{s:Shared}{tg:Expr}{it:Addr}{u:Value}{o:Obj}{n:String}{vs:Array Value}{Q:Unit->Shared->Prop}(ho:s.heap.get? it=some o)(hc:o.cls=.type n)(hd:o.data=.fields vs)
   (hn:["enumerate", "zip", "dict_itemiterator", "dict_reverseitemiterator", "odict_iterator", "itertools.zip_longest", "itertools.pairwise"].contains n=false) (hQ:Q () s):wpAny M A (letOwnedTupleGo tg (.ref it) u) Q E s:=by
 unfold letOwnedTupleGo;cases tg<;>first
   |exact z52 hQ
   | (cases u<;>first
       |exact z52 hQ
       | (refine z5o (wpAny_load ho ?_)
          rw[hc,hd];show wpAny M A (if(["enumerate", "zip", "dict_itemiterator", "dict_reverseitemiterator", "odict_iterator", "itertools.zip_longest", "itertools.pairwise"].contains n&&vs[0]?==some (rawInt _))=true then _ else _) Q E s;rw[z6c (by intro h;rw[hn,qax]at h;cases h)];exact z52 hQ))
def Itl(K:zFr)(a:Addr):It :=
 ⟨fun i H=>∃xs x,SqL K H a xs/\xs[i]? = some x,fun i H x H'=>H'=H/\∀xs,SqL K H a xs->xs[i]? = some x,fun i H=>∃xs,SqL K H a xs/\xs.length<=i⟩
def Itt(K:zFr)(a:Addr):It :=
 ⟨fun i H=>∃xs x,SqT K H a xs/\xs[i]? = some x,fun i H x H'=>H'=H/\∀xs,SqT K H a xs->xs[i]? = some x,fun i H=>∃xs,SqT K H a xs/\xs.length<=i⟩
def Itr(lo:Int)(n:Nat):It:=⟨fun i _=>i<n,fun i H x H'=>H'=H/\x=.int (lo+i),fun i _=>n<=i⟩
theorem zmm{P:Program}{w:World}{K:zFr}{tg:Expr}(a it:Addr):Turn P w K tg (Itl K a) [it] it (fun i h=>h.IsListIter it a i) where
 mem:=by simp
 obj:=fun i h st b hb=>by
   have e:b=it:=by simpa using hb
   subst e;obtain⟨o,e,c,d⟩:=st;exact⟨o,e,fun v z=>by rw[d]at z;cases z⟩
 keep:=fun i h h' st k=>st.at fun o e=>k it (by simp) o e
 item:=by intro X hP hw hK hc i pins s σ H E I hf st hg;subst hP hw hK;obtain⟨xs,x,hq,hx⟩:=hg;obtain⟨its,rv,p,hz⟩:=I.list hq;obtain⟨u,hu,ru⟩:=rv.get hx;obtain⟨f0,f1,f2,f3,f4,f5⟩:=hf it (by simp);refine wpAny_pyNext_list_item st p.isList (x:=u) (by simpa using hu) fun h' st' sb=>?_;have I1:Inv X pins σ H { s with heap:=h' }:=I.turned (t':=s.toks) (fun b o hb e=>(sb.2 b hb).trans e) f0 f1 f3 f4 f5;obtain⟨o,e,c,d⟩:=id st';exact⟨u,rfl,zwb (s:={ s with heap:=h' }) e c d (by decide) ⟨x,H,I1,ru,⟨rfl,fun ys hy=>by rw[I.list_inj hy hq];exact hx⟩,st',fun b hb=>(hf b hb).1⟩⟩
 done:=by intro X hP hw hK hc i pins s σ H E I hf st hg;subst hP hw hK;obtain⟨xs,hq,hx⟩:=hg;obtain⟨its,rv,p,hz⟩:=I.list hq;obtain⟨f0,f1,f2,f3,f4,f5⟩:=hf it (by simp);have hl:=rv.length;exact wpAny_pyNext_list_end (I.ok.hd hc) st p.isList (by simp;omega) fun h' eb=>⟨rfl,I.turned (t':=s.toks) (fun b o hb e=>eb b o hb e) f0 f1 f3 f4 f5⟩
 self:=fun _ _ _ _ _ st h=>wpAny_pyIter_listiter st h
theorem zk1{P:Program}{w:World}{K:zFr}{tg:Expr}(a it:Addr):Turn P w K tg (Itt K a) [it] it (fun i h=>h.IsTupleIter it a i) where
 mem:=by simp
 obj:=fun i h st b hb=>by
   have e:b=it:=by simpa using hb
   subst e;obtain⟨o,e,c,d⟩:=st;exact⟨o,e,fun v z=>by rw[d]at z;cases z⟩
 keep:=fun i h h' st k=>st.at fun o e=>k it (by simp) o e
 item:=by intro X hP hw hK hc i pins s σ H E I hf st hg;subst hP hw hK;obtain⟨xs,x,hq,hx⟩:=hg;obtain⟨its,rv,p,hz⟩:=I.tuple hq;obtain⟨u,hu,ru⟩:=rv.get hx;obtain⟨f0,f1,f2,f3,f4,f5⟩:=hf it (by simp);refine wpAny_pyNext_tuple_item st (show s.heap.IsTuple a its.toArray from p) (x:=u) (by simpa using hu) fun h' st' sb=>?_;have I1:Inv X pins σ H { s with heap:=h' }:=I.turned (t':=s.toks) (fun b o hb e=>(sb.2 b hb).trans e) f0 f1 f3 f4 f5;obtain⟨o,e,c,d⟩:=id st';exact⟨u,rfl,zwb (s:={ s with heap:=h' }) e c d (by decide) ⟨x,H,I1,ru,⟨rfl,fun ys hy=>by rw[I.tuple_inj hy hq];exact hx⟩,st',fun b hb=>(hf b hb).1⟩⟩
 done:=by intro X hP hw hK hc i pins s σ H E I hf st hg;subst hP hw hK;obtain⟨xs,hq,hx⟩:=hg;obtain⟨its,rv,p,hz⟩:=I.tuple hq;obtain⟨f0,f1,f2,f3,f4,f5⟩:=hf it (by simp);have hl:=rv.length;exact wpAny_pyNext_tuple_end (I.ok.hd hc) st (show s.heap.IsTuple a its.toArray from p) (by simp;omega) fun h' eb=>⟨rfl,I.turned (t':=s.toks) (fun b o hb e=>eb b o hb e) f0 f1 f3 f4 f5⟩
 self:=fun _ _ _ _ _ st h=>wpAny_pyIter_tupleiter st h
theorem zk2{P:Program}{w:World}{K:zFr}{tg:Expr}(it:Addr)(lo:Int)(n:Nat):Turn P w K tg (Itr lo n) [it] it (fun i h=>IsRangeIter h it (lo+(i:Nat)*1) ((n:Int)-(i:Nat)) 1) where
 mem:=by simp
 obj:=fun i h st b hb=>by
   have e:b=it:=by simpa using hb
   subst e;exact⟨_,st,fun v z=>by
     have z':Data.fields _=Data.cell v:=z;cases z'⟩
 keep:=fun i h h' st k=>k it (by simp) _ st
 item:=by intro X hP hw hK hc i pins s σ H E I hf st hg;subst hP hw hK;obtain⟨f0,f1,f2,f3,f4,f5⟩:=hf it (by simp);have W:=Walks.range (prog:=X.prog) (w:=X.w) (I.ok.hd hc) it lo 1 n;refine W.item i s _ _ hg st fun v h' tk hv st' kk=>?_;obtain⟨t,rfl⟩:=hv;have I1:Inv X pins σ H { s with heap:=h',toks:=tk }:=I.turned (fun b o hb e=>kk b o (by simpa using hb) e) f0 f1 f3 f4 f5;refine⟨_,rfl,zwb (s:={ s with heap:=h',toks:=tk }) (n:="range_iterator") st' rfl rfl (by decide) ⟨.int (lo+i),H,I1,⟨t,?_⟩,⟨rfl,rfl⟩,st',fun b hb=>(hf b hb).1⟩⟩;rw[Int.mul_one]
 done:=by intro X hP hw hK hc i pins s σ H E I hf st hg;subst hP hw hK;obtain⟨f0,f1,f2,f3,f4,f5⟩:=hf it (by simp);exact wpAny_pyNext_range_end (I.ok.hd hc) st (by have:n<=i:=hg;omega) fun h' eb=>⟨rfl,I.turned (t':=s.toks) (fun b o hb e=>eb b o hb e) f0 f1 f3 f4 f5⟩
 self:=fun _ _ _ _ _ st h=>wpAny_pyIter_rangeiter st h
section
variable {X:Cx}{tg:Expr}
def z3e(K:zFr)(tl:TE):TI:=fun σ H R=>tl σ H fun x H1=>∃a,x=.ref a/\(∃xs,SqL K H1 a xs)/\R (Itl K a) H1
def z47(K:zFr)(tl:TE):TI:=fun σ H R=>tl σ H fun x H1=>∃a,x=.ref a/\(∃xs,SqT K H1 a xs)/\R (Itt K a) H1
theorem zfc{l:Expr}{tl:TE}(hl:PE X l tl):PI X tg l (z3e X.K tl):=by
 intro pins s σ H R I h;refine thn (hl pins s σ H _ I h) fun v s1 ⟨x,H1,I1,r1,q1⟩=>?_;obtain⟨a,e,⟨xs,hq⟩,q⟩:=q1;subst e;cases r1;obtain⟨its,rv,p,hz⟩:=I1.list hq;refine wpAny_pyIter_list p.isList ?_;refine⟨s1.heap.objs.size,[s1.heap.objs.size],_,_,H1,rfl,I1.kept (t':=s1.toks) fun b o e=>z5t _ e,zmm a _,⟨_,z6o _ rfl,rfl,rfl⟩,fun b hb=>?_,q⟩;have e:b=s1.heap.objs.size:=by simpa using hb
 subst e;exact I1.fpOk (z5p _) (I1.hok.fresh (z5p _))
theorem zyy{l:Expr}{tl:TE}(hl:PE X l tl):PI X tg l (z47 X.K tl):=by
 intro pins s σ H R I h;refine thn (hl pins s σ H _ I h) fun v s1 ⟨x,H1,I1,r1,q1⟩=>?_;obtain⟨a,e,⟨xs,hq⟩,q⟩:=q1;subst e;cases r1;obtain⟨its,rv,p,hz⟩:=I1.tuple hq;refine wpAny_pyIter_tuple (show s1.heap.IsTuple a its.toArray from p) ?_;refine⟨s1.heap.objs.size,[s1.heap.objs.size],_,_,H1,rfl,I1.kept (t':=s1.toks) fun b o e=>z5t _ e,zk1 a _,⟨_,z6o _ rfl,rfl,rfl⟩,fun b hb=>?_,q⟩;have e:b=s1.heap.objs.size:=by simpa using hb
 subst e;exact I1.fpOk (z5p _) (I1.hok.fresh (z5p _))
theorem zq4{pins:zAO}{σ:St}{H:Hp}{s:Shared}{R:It->Hp->Prop}{E:zVP}{lo hi:Int}{t u v:Tok}{tk:Nat}(I:Inv X pins σ H s)(h1:-(2^62)<=lo)(h2:lo<2^62)(h3:-(2^62)<=hi)(h4:hi<2^62)
   (q:R (Itr lo (hi-lo).toNat) H):wpAny (model X.prog X.w) X.A (pyIter (.ref s.heap.objs.size)) (PIE X pins σ tg R) E { s with heap:=s.heap.push { cls:=.type "range",data:=.fields #[.int lo t,.int hi u,.int 1 v] },toks:=tk }:=by
 refine wpAny_pyIter_range (IsRange.new ..) (small_one h1 h2 h3 h4) ?_;have I1:Inv X pins σ H { s with heap:=s.heap.push { cls:=.type "range",data:=.fields #[.int lo t,.int hi u,.int 1 v] },toks:=tk }:=I.kept fun b o e=>z5t _ e;refine⟨(s.heap.push { cls:=.type "range",data:=.fields #[.int lo t,.int hi u,.int 1 v] }).objs.size,[(s.heap.push { cls:=.type "range",data:=.fields #[.int lo t,.int hi u,.int 1 v] }).objs.size],_,_,H,rfl,
   I1.kept (t':=tk) fun b o e=>z5t _ e,zk2 _ lo (hi-lo).toNat,?_,fun b hb=>?_,q⟩
 · have e1:lo+((0:Nat):Int)*1=lo:=by simp
   have e2:(((hi-lo).toNat:Nat):Int)-((0:Nat):Int)=Builtin.Range.rangeSize lo hi 1:=by rw[rangeSize_one];split<;>omega
   show IsRangeIter _ _ (lo+((0:Nat):Int)*1) ((((hi-lo).toNat:Nat):Int)-((0:Nat):Int)) 1;rw[e1,e2];exact z6o _ rfl
 · have e:b=(s.heap.push { cls:=.type "range",data:=.fields #[.int lo t,.int hi u,.int 1 v] }).objs.size:=by simpa using hb
   subst e;exact I1.fpOk (z5p _) (I1.hok.fresh (z5p _))
def z3d(ta:TA):TI:=fun σ H R=>ta σ H fun vs H1=>∃j:Int,vs=[.int j]/\-(2^62)<=j/\j<2^62/\R (Itr 0 j.toNat) H1
theorem zgq{a:Expr}{ta:TA}{p pos:Pos}(hg:Gl X "range")(hm:X.mg "range"=none)(ha:PA X [a] ta)(hs:starEach [a] X.env=[(false,eval a X.env)]:=by rfl):PI X tg (.Call (.Name "range" p) [a] [] pos) (z3d ta):=by
 intro pins s σ H R I h;refine Call_ (zgz I hg hm boot_range (z83 (thn (ha pos pins s σ H _ I h) fun us s1 ⟨vs,H1,I1,r1,q1⟩=>?_) hs rfl));obtain⟨j,e,q1,q2,q⟩:=q1;subst e;cases r1 with
 | cons r rr=>
   cases rr;obtain⟨t,rfl⟩:=r;exact call_range_1 (zq4 I1 (by omega) (by omega) q1 q2 (by simpa using q))
def z4t(wi:TI)(g:TG)(tb:TS):TS:=fun D σ H=>wi σ H fun J H1=>∃W:Nat->Nat->St->Hp->Prop,(∃m,W 0 m σ H1)/\∀i m σ H,W i m σ H ->
 (J.stop i H/\D.nx σ H)\/(J.go i H/\∃N:St->Hp->Prop,(∀σ' H',N σ' H'->∃m',m'<m/\W (i+1) m' σ' H')/\∀x H',J.yld i H x H'->g x σ H' fun σ2 H2=>tb { D with nx:=N,ct:=N,bk:=D.nx } σ2 H2)
def zjv(fp:List Addr)(h:Heap):zAO:=fp.filterMap fun b=>(h.get? b).map fun o=>(b,o)
theorem x5{fp:List Addr}{h:Heap}{b:Addr}{o:Obj}(hb:b∈fp)(e:h.get? b=some o):(b,o)∈zjv fp h:=List.mem_filterMap.mpr ⟨b,hb,by rw[e];rfl⟩
theorem zn1{fp:List Addr}{h:Heap}{p:Addr×Obj}(hp:p∈zjv fp h):p.1∈fp/\h.get? p.1=some p.2:=by
 obtain⟨b,hb,e⟩:=List.mem_filterMap.mp hp;cases q:h.get? b with
 |none=>rw[q]at e;cases e
 | some o=>
   rw[q]at e;have e':(b,o)=p:=z62 e;subst e';exact⟨hb,q⟩
theorem Inv.pinned{pins:zAO}{σ:St}{H:Hp}{s:Shared}{fp:List Addr}(I:Inv X pins σ H s)(hf:∀b∈fp,zmb X pins H b)(ho:∀b∈fp,∃o,s.heap.get? b=some o/\∀v,o.data≠.cell v):Inv X (pins++zjv fp s.heap) σ H s :=
 I.pins_of fun p hp=>(z6i.mp hp).elim (fun z=>I.pin p (z57 _ z)) fun z=>by obtain⟨hb,e⟩:=zn1 z;obtain⟨f0,f1,f2,_⟩:=hf p.1 hb;obtain⟨o,e',d⟩:=ho p.1 hb;rw[e]at e';cases e';exact⟨e,f0,f1,f2,d⟩
theorem Inv.unpinned{pins pl:zAO}{σ:St}{H:Hp}{s:Shared}(I:Inv X (pins++pl) σ H s):Inv X pins σ H s:=I.pins_of fun p hp=>I.pin p (z57 _ (z6w _ hp))
theorem znn{iter:Expr}{body:List Stmt}{wi:TI}{g:TG}{tb:TS}{pos:Pos}(hp:PassesOwn (model X.prog X.w) X.A X.env X.xe)(hc:X.calm=true)(hi:PI X tg iter wi)(hg:PG X tg g)(hb:PSs X body tb)
   (hs:∀x,foldedSetIterable iter X.env x=pure x:=by intro _;rfl):PS X (.For tg iter body [] pos) (z4t wi g tb):=by
 intro pins s σ H D I h;refine wpAny_For (thn (hi pins s σ H _ I h) fun v s1 h1=>thn h1 fun itv s2 h2=>?_) hs;obtain⟨it,fp,tn,J,H2,e,I2,T,st2,f2,W,⟨m0,w0⟩,turn⟩:=h2;subst e;have stat:∀{H':Hp},(∀b∈fp,H' b=none)->∀b∈fp,zmb X pins H' b:=fun hn b hb=>⟨hn b hb,(f2 b hb).2⟩
 refine codeAny_forLoop_any (fun n s'=>∃i σ' H',Inv X pins σ' H' s'/\tn i s'.heap/\(∀b∈fp,H' b=none)/\W i n σ' H') ?_ m0 ⟨0,σ,H2,I2,st2,fun b hb=>(f2 b hb).1,w0⟩;rintro n s3 ⟨i,σ3,H3,I3,st3,fr3,w3⟩;rcases turn i n σ3 H3 w3 with⟨stop,qn⟩ | ⟨go,N,hN,step⟩
 · refine z8l hp (thn (T.done X rfl rfl rfl hc i pins s3 σ3 H3 X.xe I3 (stat fr3) st3 stop) fun r s4 ⟨hr,I4⟩=>?_);subst hr;exact z9q ⟨σ3,H3,I4,qn⟩
 · refine z8l hp (thn (T.item X rfl rfl rfl hc i pins s3 σ3 H3 X.xe I3 (stat fr3) st3 go) fun r s4 ⟨u,hr,h4⟩=>?_);subst hr;refine z8l hp (thn h4 fun _ s5 ⟨x,H5,I5,r5,y5,st5,fr5⟩=>?_);have I5':=I5.pinned (stat fr5) (T.obj _ _ st5);refine z8l hp (thn (hg _ s5 σ3 H5 x u _ I5' r5 (step x H5 y5)) fun _ s6 ⟨σ6,H6,I6,q6⟩=>?_);refine z8l hp (thn (hb _ s6 σ6 H6 _ I6 q6) fun f s7 q7=>?_);have again:∀{σ7:St}{H7:Hp},Inv X (pins++zjv fp s5.heap) σ7 H7 s7->N σ7 H7->∃m,m<n/\∃i σ' H',Inv X pins σ' H' s7/\tn i s7.heap/\(∀b∈fp,H' b=none)/\W i m σ' H':=fun {σ7 H7} I7 n7=>by obtain⟨m',hm,w7⟩:=hN σ7 H7 n7;refine⟨m',hm,i+1,σ7,H7,I7.unpinned,T.keep _ _ _ st5 fun b hb o e=>(I7.pin (b,o) (z57 _ (z57 _ (x5 hb e)))).1,fun b hb=>?_,w7⟩;obtain⟨o,e,d⟩:=T.obj _ _ st5 b hb;exact(I7.pin (b,o) (z57 _ (z57 _ (x5 hb e)))).2.1
   cases f with
   |next=>obtain⟨σ7,H7,I7,n7⟩:=q7;exact again I7 n7
   |cont=>obtain⟨σ7,H7,I7,n7⟩:=q7;exact again I7 n7
   |brk=>obtain⟨σ7,H7,I7,q7⟩:=q7;exact⟨σ7,H7,I7.unpinned,q7⟩
   |ret v=>obtain⟨x7,σ7,H7,I7,r7,q7⟩:=q7;exact⟨x7,σ7,H7,I7.unpinned,r7,q7⟩
end
theorem zkf{K:zFr}{a:Addr}{xs:List V}{g:TG}{tb:TS}{D:Ends}{σ:St}{H:Hp}(Pv:Nat->St->Hp->Prop)(h0:Pv 0 σ H)(hl:∀i σ H,i<=xs.length->Pv i σ H->SqL K H a xs)
   (hs:∀i x σ H,xs[i]? = some x->Pv i σ H->g x σ H fun σ2 H2=>tb { D with nx:=Pv (i+1),ct:=Pv (i+1),bk:=D.nx } σ2 H2) (hd:∀σ H,Pv xs.length σ H->D.nx σ H) :
   ∃W:Nat->Nat->St->Hp->Prop,(∃m,W 0 m σ H)/\∀i m σ H,W i m σ H ->
     ((Itl K a).stop i H/\D.nx σ H)\/((Itl K a).go i H/\∃N:St->Hp->Prop,(∀σ' H',N σ' H'->∃m',m'<m/\W (i+1) m' σ' H')/\∀x H',(Itl K a).yld i H x H'->g x σ H' fun σ2 H2=>tb { D with nx:=N,ct:=N,bk:=D.nx } σ2 H2):=by
 refine⟨fun i m σ H=>m=xs.length-i/\i<=xs.length/\Pv i σ H,⟨xs.length,by simp,z66 _,h0⟩,?_⟩;rintro i m σ H ⟨rfl,hi,p⟩;have q:=hl i σ H hi p;by_cases hlt:i<xs.length
 · refine .inr ⟨⟨xs,xs[i],q,by simp[hlt]⟩,Pv (i+1),fun σ' H' p'=>⟨xs.length-(i+1),by omega,rfl,hlt,p'⟩,fun x H' y=>?_⟩;obtain⟨e,y⟩:=y;subst e;exact hs i x σ _ (y xs q) p
 · have e:i=xs.length:=by omega
   subst e;exact .inl ⟨⟨xs,q,z5p _⟩,hd σ H p⟩
theorem zo0{lo:Int}{n:Nat}{g:TG}{tb:TS}{D:Ends}{σ:St}{H:Hp}(Pv:Nat->St->Hp->Prop)(h0:Pv 0 σ H)
   (hs:∀i σ H,i<n->Pv i σ H->g (.int (lo+i)) σ H fun σ2 H2=>tb { D with nx:=Pv (i+1),ct:=Pv (i+1),bk:=D.nx } σ2 H2) (hd:∀σ H,Pv n σ H->D.nx σ H) :
   ∃W:Nat->Nat->St->Hp->Prop,(∃m,W 0 m σ H)/\∀i m σ H,W i m σ H ->
     ((Itr lo n).stop i H/\D.nx σ H)\/((Itr lo n).go i H/\∃N:St->Hp->Prop,(∀σ' H',N σ' H'->∃m',m'<m/\W (i+1) m' σ' H')/\∀x H',(Itr lo n).yld i H x H'->g x σ H' fun σ2 H2=>tb { D with nx:=N,ct:=N,bk:=D.nx } σ2 H2):=by
 refine⟨fun i m σ H=>m=n-i/\i<=n/\Pv i σ H,⟨n,by simp,z66 _,h0⟩,?_⟩;rintro i m σ H ⟨rfl,hi,p⟩;by_cases hlt:i<n
 · refine .inr ⟨hlt,Pv (i+1),fun σ' H' p'=>⟨n-(i+1),by omega,rfl,hlt,p'⟩,fun x H' y=>?_⟩;obtain⟨e,y⟩:=y;subst e y;exact hs i σ _ hlt p
 · have e:i=n:=by omega
   subst e;exact .inl ⟨z5p _,hd σ H p⟩
abbrev R2:=V->V->Hp->VK->Prop
def OpR(X:Cx)(f:Value->Value->Sem Value)(r:R2):Prop :=
 ∀(pins:zAO) (s:Shared) (σ:St) (H:Hp) (x y:V) (v u:Value) (Q:VK),Inv X pins σ H s->RelV x v->RelV y u->r x y H Q ->
   wpAny (model X.prog X.w) X.A (f v u) (EP X pins σ Q) X.xe s
def UnR(X:Cx)(f:Value->Sem Value)(r:V->Hp->VK->Prop):Prop :=
 ∀(pins:zAO) (s:Shared) (σ:St) (H:Hp) (x:V) (v:Value) (Q:VK),Inv X pins σ H s->RelV x v->r x H Q ->
   wpAny (model X.prog X.w) X.A (f v) (EP X pins σ Q) X.xe s
def CallR(X:Cx)(f:Value)(r:List V->Hp->VK->Prop):Prop :=
 ∀(pins:zAO) (s:Shared) (σ:St) (H:Hp) (xs:List V) (us:List Value) (Q:VK),Inv X pins σ H s->Vals xs us->r xs H Q ->
   wpAny (model X.prog X.w) X.A (call f us) (EP X pins σ Q) X.xe s
def tOp(r:R2)(ta tb:TE):TE:=fun σ H Q=>ta σ H fun x H1=>tb σ H1 fun y H2=>r x y H2 Q
def tUn(r:V->Hp->VK->Prop)(ta:TE):TE:=fun σ H Q=>ta σ H fun x H1=>r x H1 Q
def rI(C:Int->Int->Prop)(g:Int->Int->V):R2:=fun x y H Q=>∃i j,x=.int i/\y=.int j/\C i j/\Q (g i j) H
def rI0(g:Int->Int->V):R2:=fun x y H Q=>∃i j,x=.int i/\y=.int j/\Q (g i j) H
def rU(g:Int->V):V->Hp->VK->Prop:=fun x H Q=>∃i,x=.int i/\Q (g i) H
section
variable {X:Cx}{a b c:Expr}{ta tb tc:TE}{pos:Pos}
theorem z3v(ha:PE X a ta)(hb:PE X b tb){pins:zAO}{s:Shared}{σ:St}{H:Hp}{R:V->V->Hp->Prop}(I:Inv X pins σ H s)
   (h:ta σ H fun x H1=>tb σ H1 fun y H2=>R x y H2) {Q:zVP}{f:Value->Value->Sem Value}
   (hf:∀v u s2 x y H2,Inv X pins σ H2 s2->RelV x v->RelV y u->R x y H2->wpAny (model X.prog X.w) X.A (f v u) Q X.xe s2) :
   wpAny (model X.prog X.w) X.A (eval a X.env) (fun v s₁=>wpAny (model X.prog X.w) X.A (eval b X.env) (fun u s₂=>wpAny (model X.prog X.w) X.A (f v u) Q X.xe s₂) X.xe s₁) X.xe s:=by
 refine thn (ha pins s σ H _ I h) fun v s1 ⟨x,H1,I1,r1,q1⟩=>?_;refine thn (hb pins s1 σ H1 _ I1 q1) fun u s2 ⟨y,H2,I2,r2,q2⟩=>?_;exact hf v u s2 x y H2 I2 r1 r2 q2
theorem z2u{op:Operator}{r:R2}(ho:OpR X (binaryOp op) r)(ha:PE X a ta)(hb:PE X b tb):PE X (.BinOp a op b pos) (tOp r ta tb):=by intro pins s σ H Q I h;exact wpAny_BinOp (z3v ha hb I h fun v u s2 x y H2 I2 rx ry q=>ho pins s2 σ H2 x y v u Q I2 rx ry q)
theorem z2t{op:UnaryOp}{r:V->Hp->VK->Prop}(ho:UnR X (unaryOp op) r)(ha:PE X a ta):PE X (.UnaryOp op a pos) (tUn r ta):=by intro pins s σ H Q I h;exact UnaryOp_ (thn (ha pins s σ H _ I h) fun v s1 ⟨x,H1,I1,r1,q1⟩=>ho pins s1 σ H1 x v Q I1 r1 q1)
theorem opI{f:Value->Value->Sem Value}{C:Int->Int->Prop}{g:Int->Int->Int}
   (rule:∀(i j:Int) (t u:Tok) (s:Shared) (Q:zVP) (E:zVP),C i j->Q (.int (g i j) s.toks) { s with toks:=s.toks+1 }->wpAny (model X.prog X.w) X.A (f (.int i t) (.int j u)) Q E s) :
   OpR X f (rI C fun i j=>.int (g i j)):=by
 intro pins s σ H x y v u Q I rx ry h;obtain⟨i,j,rfl,rfl,hc,q⟩:=h;obtain⟨t,rfl⟩:=rx;obtain⟨t',rfl⟩:=ry;exact rule i j t t' s _ _ hc ⟨.int (g i j),H,I.tok _,⟨_,rfl⟩,q⟩
theorem z38{f:Value->Value->Sem Value}{g:Int->Int->Int}
   (rule:∀(i j:Int) (t u:Tok) (s:Shared) (Q:zVP) (E:zVP),Q (.int (g i j) s.toks) { s with toks:=s.toks+1 }->wpAny (model X.prog X.w) X.A (f (.int i t) (.int j u)) Q E s) :
   OpR X f (rI0 fun i j=>.int (g i j)):=by
 intro pins s σ H x y v u Q I rx ry h;obtain⟨i,j,rfl,rfl,q⟩:=h;obtain⟨t,rfl⟩:=rx;obtain⟨t',rfl⟩:=ry;exact rule i j t t' s _ _ ⟨.int (g i j),H,I.tok _,⟨_,rfl⟩,q⟩
theorem z1n{f:Value->Value->Sem Value}{g:Int->Int->Bool}
   (rule:∀(i j:Int) (t u:Tok) (s:Shared) (Q:zVP) (E:zVP),Q (.bool (g i j)) s->wpAny (model X.prog X.w) X.A (f (.int i t) (.int j u)) Q E s) :
   OpR X f (rI0 fun i j=>.bl (g i j)):=by
 intro pins s σ H x y v u Q I rx ry h;obtain⟨i,j,rfl,rfl,q⟩:=h;obtain⟨t,rfl⟩:=rx;obtain⟨t',rfl⟩:=ry;exact rule i j t t' s _ _ ⟨.bl (g i j),H,I,rfl,q⟩
def z5l(i j:Int):Prop:=0<j/\j<1073741824
def z5k(i j:Int):Prop:=0<=j/\j<=1000000/\i.natAbs<2^64
def CMul(i j:Int):Prop:=(-(2^64)<i/\i<2^64)\/(-(2^64)<j/\j<2^64)
theorem CMul.ok{i j:Int}(h:CMul i j):IntMulOk i j:=by
 rcases h with⟨h1,h2⟩ | ⟨h1,h2⟩
 · exact .of_left (intBits_le_64 h1 h2)
 · exact .of_right (intBits_le_64 h1 h2)
theorem op_add:OpR X (binaryOp .Add) (rI0 fun i j=>.int (i+j)):=z38 fun _ _ _ _ _ _ _ q=>add_int q
theorem zza:OpR X (binaryOp .Sub) (rI0 fun i j=>.int (i-j)):=z38 fun _ _ _ _ _ _ _ q=>sub_int q
theorem zvv:OpR X (binaryOp .FloorDiv) (rI z5l fun i j=>.int (i/j)):=opI fun i j _ _ _ _ _ hc q=>by have h1:(0:Int)<j:=hc.1;have h2:j<1073741824:=hc.2;exact floordiv_int (by omega) (by rw[Int.fdiv_eq_ediv_of_nonneg i (by omega)];exact q) (.inl (PyProof.noPylong_small (by omega)))
theorem zzd:OpR X (binaryOp .Mod) (rI (fun _ j=>0<j) fun i j=>.int (i%j)):=opI fun i j _ _ _ _ _ hc q=>by have h1:(0:Int)<j:=hc;exact mod_int' (by omega) (by rw[Int.fmod_eq_emod_of_nonneg i (by omega)];exact q)
theorem zzb:OpR X (binaryOp .Pow) (rI z5k fun i j=>.int (i^j.toNat)):=opI fun _ _ _ _ _ _ _ hc q=>pow_int_small hc.1 hc.2.1 hc.2.2 q
theorem unI{f:Value->Sem Value}{g:Int->Int}
   (rule:∀(i:Int) (t:Tok) (s:Shared) (Q:zVP) (E:zVP),Q (.int (g i) s.toks) { s with toks:=s.toks+1 }->wpAny (model X.prog X.w) X.A (f (.int i t)) Q E s) :
   UnR X f (rU fun i=>.int (g i)):=by
 intro pins s σ H x v Q I rx h;obtain⟨i,rfl,q⟩:=h;obtain⟨t,rfl⟩:=rx;exact rule i t s _ _ ⟨.int (g i),H,I.tok _,⟨_,rfl⟩,q⟩
theorem zxp:UnR X (unaryOp .USub) (rU fun i=>.int (-i)):=unI fun _ _ _ _ _ q=>neg_int q
end
section
variable {X:Cx}{a b c:Expr}{ta tb tc:TE}{pos:Pos}
theorem ztv{pins:zAO}{σ:St}{H:Hp}{s:Shared}{Q:VK}{k k':Bool}(I:Inv X pins σ H s)(q:Q (.bl k) H)(e:k=k'):EP X pins σ Q (.bool k') s:=by subst e;exact⟨.bl k,H,I,rfl,q⟩
theorem zvt:OpR X (compareOp .Lt) (rI0 fun i j=>.bl (decide (i<j))):=z1n fun _ _ _ _ _ _ _ q=>lt_int q
theorem zvu:OpR X (compareOp .LtE) (rI0 fun i j=>.bl (decide (i<=j))):=z1n fun _ _ _ _ _ _ _ q=>le_int q
theorem z2z:OpR X (compareOp .Gt) (rI0 fun i j=>.bl (decide (j<i))):=z1n fun _ _ _ _ _ _ _ q=>gt_int q
theorem z20:OpR X (compareOp .GtE) (rI0 fun i j=>.bl (decide (j<=i))):=z1n fun _ _ _ _ _ _ _ q=>ge_int q
theorem op_isN:OpR X (compareOp .Is) (fun x y H Q=>y=.non/\Q (.bl (decide (x=.non))) H):=by
 intro pins s σ H x y v u Q I rx ry h;obtain⟨rfl,q⟩:=h;cases ry;refine is_none_gen (ztv I q ?_);cases x<;>first
   | (cases rx;rfl)
   | (obtain⟨t,rfl⟩:=rx;rfl)
theorem op_notN:OpR X (compareOp .IsNot) (fun x y H Q=>y=.non/\Q (.bl (!decide (x=.non))) H):=by
 intro pins s σ H x y v u Q I rx ry h;obtain⟨rfl,q⟩:=h;cases ry;refine isnot_none_gen (ztv I q ?_);cases x<;>first
   | (cases rx;rfl)
   | (obtain⟨t,rfl⟩:=rx;rfl)
theorem OpR.or{f:Value->Value->Sem Value}{r r':R2}(h:OpR X f r)(h':OpR X f r'):OpR X f (fun x y H Q=>r x y H Q\/r' x y H Q):=by
 intro pins s σ H x y v u Q I rx ry q;rcases q with q | q
 · exact h pins s σ H x y v u Q I rx ry q
 · exact h' pins s σ H x y v u Q I rx ry q
theorem y8(b:Expr){op:CmpOp}(h:op≠.In:=by decide)(h2:op≠.NotIn:=by decide):behindInMarks op b=false:=by
 have e1:(op==CmpOp.In)=false:=by cases op<;>first | rfl | exact absurd rfl h
 have e2:(op==CmpOp.NotIn)=false:=by cases op<;>first | rfl | exact absurd rfl h2
 cases b<;>simp[behindInMarks,e1,e2]
theorem zvp{op:CmpOp}{r:R2}(ho:OpR X (compareOp op) r)(ha:PE X a ta)(hb:PE X b tb)(hm:behindInMarks op b=false):PE X (.Compare a [op] [b] pos) (tOp r ta tb):=by intro pins s σ H Q I h;exact wpAny_Compare1 (z3v ha hb I h fun v u s2 x y H2 I2 rx ry q=>ho pins s2 σ H2 x y v u Q I2 rx ry q) hm
def zuq(t:TE):TT:=fun σ H Q=>t σ H fun x H'=>∃k,x=.bl k/\Q k H'
theorem zvd{op:CmpOp}{r:R2}(ho:OpR X (compareOp op) r)(ha:PE X a ta)(hb:PE X b tb)(hm:behindInMarks op b=false):PT X (.Compare a [op] [b] pos) (zuq (tOp r ta tb)):=by
 intro pins s σ H Q I h;refine wpAny_isTrue_Compare1 (thn (ha pins s σ H _ I h) fun v s1 ⟨x,H1,I1,r1,q1⟩=>thn (hb pins s1 σ H1 _ I1 q1) fun u s2 ⟨y,H2,I2,r2,q2⟩=>
   thn (ho pins s2 σ H2 x y v u _ I2 r1 r2 q2) fun c s3 ⟨z,H3,I3,r3,k,e,q3⟩=>?_) hm
 subst e;cases r3;exact z7h ⟨H3,I3,q3⟩
def zs2(r r':R2)(ta tb tc:TE):TE:=fun σ H Q=>ta σ H fun x H1=>tb σ H1 fun y H2=>r x y H2 fun z H3=>∃k,z=.bl k /\
 (if k=true then tc σ H3 fun w' H4=>r' y w' H4 Q else Q (.bl false) H3)
theorem zq5{op op':CmpOp}{r r':R2}(ho:OpR X (compareOp op) r)(ho':OpR X (compareOp op') r')(ha:PE X a ta)(hb:PE X b tb)(hc:PE X c tc)
   (hm:lastMarks [op,op'] [b,c]=false:=by with_unfolding_all rfl):PT X (.Compare a [op,op'] [b,c] pos) (zuq (zs2 r r' ta tb tc)):=by
 intro pins s σ H Q I h;refine isTrue_chain (thn (ha pins s σ H _ I h) fun v s1 ⟨x,H1,I1,r1,q1⟩=>test_link (thn (hb pins s1 σ H1 _ I1 q1) fun u s2 ⟨y,H2,I2,r2,q2⟩=>
   thn (ho pins s2 σ H2 x y v u _ I2 r1 r2 q2) fun d s3 ⟨z,H3,I3,r3,k,e,q3⟩=>?_)) hm
 subst e;cases r3;refine z7h ?_;cases k with
 | false=>
   obtain⟨k',e',q'⟩:=q3;cases e';exact ite_ff ⟨H3,I3,q'⟩
 | true=>
   refine ite_tt (test_last (thn (hc pins s3 σ H3 _ I3 q3) fun w' s4 ⟨z',H4,I4,r4,q4⟩=>thn (ho' pins s4 σ H4 y z' u w' _ I4 r2 r4 q4) fun d' s5 ⟨z2,H5,I5,r5,k2,e2,q5⟩=>?_));subst e2;cases r5;exact z7h ⟨H5,I5,q5⟩
theorem zgy:(sizeLine:Nat)<2^63:=by rw[z7b];decide
theorem op_add_str:OpR X (binaryOp .Add) (fun x y H Q=>∃i j,x=.str i/\y=.str j/\i.length+j.length<=sizeLine/\Q (.str (i++j)) H):=by intro pins s σ H x y v u Q I rx ry h;obtain⟨i,j,rfl,rfl,hz,q⟩:=h;obtain⟨t,rfl⟩:=rx;obtain⟨t',rfl⟩:=ry;exact add_str (fun t' tk=>⟨.str (i++j),H,I.tok _,⟨_,rfl⟩,q⟩) hz
theorem zqi{x:V}{us:List Value}(r:Vals [x] us):∃u,us=[u]/\RelV x u:=by
 cases r with
 |cons r1 r2=>cases r2;exact⟨_,rfl,r1⟩
theorem z18{x y:V}{us:List Value}(r:Vals [x,y] us):∃u w',us=[u,w']/\RelV x u/\RelV y w':=by
 cases r with
 | cons r1 r2=>
   cases r2 with
   |cons r3 r4=>cases r4;exact⟨_,_,rfl,r1,r3⟩
theorem zsh:CallR X (.builtin "abs") (fun xs H Q=>∃i,xs=[.int i]/\Q (.int (if i<0 then -i else i)) H):=by intro pins s σ H xs us Q I r h;obtain⟨i,rfl,q⟩:=h;obtain⟨u,rfl,t,rfl⟩:=zqi r;exact call_abs_int fun u tk=>⟨.int (if i<0 then -i else i),H,I.tok _,⟨_,rfl⟩,q⟩
theorem zpy(hc:X.calm=true):CallR X (.builtin "max") (fun xs H Q=>∃i j,xs=[.int i,.int j]/\Q (.int (if j>i then j else i)) H):=by
 intro pins s σ H xs us Q I r h;obtain⟨i,j,rfl,q⟩:=h;obtain⟨u,w',rfl,⟨t,rfl⟩,⟨t',rfl⟩⟩:=z18 r;refine max_two_ints (I.ok.hd hc) fun h' tk k=>⟨_,H,I.kept k,?_,q⟩
 by_cases hj:j>i
 · rw[z55 hj,z55 hj];exact⟨_,rfl⟩
 · rw[z6c hj,z6c hj];exact⟨_,rfl⟩
end
structure ObjM (h:Heap) (x dx C:Addr) (mA:zMg):Prop where
 obj:h.get? x=some (PySem.W.instObj C dx)
 ns:h.Ns1 dx mA
 ne:dx≠x
theorem zoe{h:Heap}{dx:Addr}{mA:zMg}(n:h.Ns1 dx mA):∃od,h.get? dx=some od/\∀name,PySem.W.lookIn name od=some (mA name):=by
 obtain⟨o,es,ep,ho,hd,hk,_,hm⟩:=n;refine⟨o,ho,fun name=>?_⟩;have e:=hm name;unfold nsFind findBy at e;rw[<-Array.find?_toList]at e;unfold PySem.W.lookIn;rw[hd];dsimp only;split
 · rename_i y q;rw[q]at e;exact z7k some e
 · rename_i q;rw[q]at e;have a:es.toList.any (·.refKey)=false:=by rw[List.any_eq_false];intro y hy;obtain⟨z,t,hkey⟩:=hk y (Array.mem_toList_iff.mp hy);simp[DictEntry.refKey,hkey]
   have a':¬ es.toList.any (·.refKey)=true:=by rw[a];exact z7a
   rw[z6c a'];exact z7k some e
theorem ObjM.look{h:Heap}{x dx C:Addr}{mA:zMg}(I:ObjM h x dx C mA):∃od,PySem.W.InstAt h x (PySem.W.instObj C dx) C (some od)/\∀name,PySem.W.lookIn name od=some (mA name) :=
 let⟨od,ho,hl⟩:=zoe I.ns
 ⟨od,⟨I.obj,rfl,rfl,ho⟩,hl⟩
section
variable {prog:Program}{w:World}{A:Around}{E:zVP}{s:Shared}{K:zFr}{x dx C f:Addr}{mA:zMg}{name:Str}{v:Value}
theorem zwc{expr:Bool}{Q:zVP}(X:K.In s.heap)(I:ObjM s.heap x dx C mA)(hg:PySem.W.plainGet K C name=true)(hh:PySem.W.hasDictIn K C=true)
   (ha:PySem.W.findIn K (.ref C) name=some none) (hv:mA name=some v) (hv':PySem.W.handedIn v=true) (h:Q v { s with toks:=s.toks+1 }) :
   wpAny (model prog w) A (getAttr (.ref x) name expr) Q E s:=by
 obtain⟨od,J,hl⟩:=I.look;exact PySem.W.get_value X J (qaf hg).1 (PySem.W.findObj_own hh ha rfl (by rw[hl,hv])) hv' h
theorem zrt{pl:Sem Bool}{Q:Value×List Value->Shared->Prop}(X:K.In s.heap)(I:ObjM s.heap x dx C mA)(hg:PySem.W.plainGet K C name=true)
   (hf:PySem.W.findIn K (.ref C) name=some (some (.ref f))) (ht:PySem.W.isFn K (.ref f)=true) (hv:mA name=none) (h:Q (.ref f,[.ref x]) s) :
   wpAny (model prog w) A (getMethod (.ref x) name pl) Q E s:=by
 obtain⟨od,J,hl⟩:=I.look;exact PySem.W.method_fn X J (qaf hg).1 (qaf hg).2 hf (z74.mp ht) (by show(PySem.W.lookIn name od).map (·.isSome)=some false;rw[hl,hv];rfl) h
theorem zu3{ns:List Str}{Q:Unit->Shared->Prop}(X:K.In s.heap)(I:ObjM s.heap x dx C mA)
   (hs:PySem.W.findIn K (.ref C) "__setattr__"=some (some (.builtin "object.__setattr__"))) (hp:PySem.W.plainOver K C=true) (ht:PySem.W.takerIn K C name=some none) (hh:PySem.W.hasDictIn K C=true)
   (hw:PySem.Within mA ns) (hsz:ns.length<=sizeLine)
   (h:∀h',ObjM h' x dx C (fun y=>if y=name then some v else mA y)->Heap.SameBut dx s.heap h'->Q () { s with heap:=h',toks:=s.toks+2 }) :
   wpAny (model prog w) A (setAttr (.ref x) name v) Q E s:=by
 obtain⟨od,J,hl⟩:=I.look;refine PySem.W.set_plain X J hs (PySem.W.osa_open (s:={ s with toks:=s.toks+1 }) (r:=none) X J hp ht fun b=>?_);obtain⟨cd,hc,hd'⟩:=PySem.W.any_some hh;have hx:s.heap.get? x=some ⟨.ref C,some dx,.plain,#[]⟩:=I.obj;refine z5o (z52 (z5o (z5o (qay hx (z5o (PySem.W.Looks.here (s:={ s with toks:=s.toks+1 }) (PySem.W.looks_clsIn X hc) ?_))))));rw[hd'];refine z52 (a:=some dx) (z5o (z52 (z5o ?_)));refine wpAny_nsSet1 (s:={ s with toks:=s.toks+1 }) I.ns fun h' hn2 hs2=>?_;obtain⟨oD,esD,epD,hoD,hdD,hcD⟩:=hn2.count (PySem.Within.cons name v hw);refine z5o (wpAny_lookBehind hoD (by rw[hdD];exact pastItsLine_dict (z6h hcD (by rw[List.length_cons];omega))) ?_);exact z52 (h _ ⟨(hs2.2 _ (z7s I.ne)).trans I.obj,hn2,I.ne⟩ hs2)
theorem zrj{R:Result->Shared->Prop}{vs:List Value}{kw:List (Str×Value)}(X:K.In s.heap)(hm:PySem.W.makesIn K C=true)
   (hi:PySem.W.findIn K (.ref C) "__init__"=some (some (.ref f))) (hf:PySem.W.typeIn K (.ref f)=some (.type "function"))
   (h:codeAny (model prog w) (A.under (.builtin "type.__call__" ⟨.ref C::vs,kw⟩)) (.call (.ref f) ⟨.ref (s.heap.objs.size+1)::vs,kw⟩) (PySem.W.InitBack (s.heap.objs.size+1) R)
     { s with heap:=(s.heap.push PySem.W.emptyDict).push (PySem.W.instObj C s.heap.objs.size) }) :
   codeAny (model prog w) A (.call (.ref C) ⟨vs,kw⟩) R s:=by
 obtain⟨hh,g,d,t,os⟩:=s;exact PySem.W.make_core (PySem.W.makes_of X hm) (PySem.W.looks_findIn X hi) (fun self=>PySem.W.bind_fn X self hf) (.inl rfl) h
end
def zd5(f:Str)(v:V):List (Str×V)->List (Str×V)
 | []=>[(f,v)]
 | (g,x)::r=>if g=f then (g,v)::r else (g,x)::zd5 f v r
theorem zdf(f g:Str)(v:V):∀fs:List (Str×V),(zd5 f v fs).lookup g=if g=f then some v else fs.lookup g
 | []=>by
   show List.lookup g [(f,v)]=_;by_cases h:g=f
   · have hb:(g==f)=true:=z74.mpr h;simp only[List.lookup,hb,z55 h]
   · have hb:(g==f)=false:=z8q.mpr h;simp only[List.lookup,hb,z6c h]
 | (k,x)::r=>by
   have ih:=zdf f g v r;rw[show zd5 f v ((k,x)::r)=(if k=f then (k,v)::r else (k,x)::zd5 f v r)from rfl];by_cases hk:k=f
   · rw[z55 hk];by_cases h:g=k
     · have hb:(g==k)=true:=z74.mpr h;simp only[List.lookup,hb,z55 (h.trans hk)]
     · have hb:(g==k)=false:=z8q.mpr h;simp only[List.lookup,hb,z6c (fun e:g=f=>h (e.trans hk.symm))]
   · rw[z6c hk];by_cases h:g=k
     · have hb:(g==k)=true:=z74.mpr h;simp only[List.lookup,hb,z6c (fun e:g=f=>hk (h.symm.trans e))]
     · have hb:(g==k)=false:=z8q.mpr h;simp only[List.lookup,hb];exact ih
theorem zdl(f:Str)(v:V):∀fs:List (Str×V),f∈(zd5 f v fs).map (·.1)/\∀g,g∈fs.map (·.1)->g∈(zd5 f v fs).map (·.1)
 | []=>⟨by simp[zd5],fun g h=>by simp at h⟩
 | (k,x)::r=>by
   obtain⟨i1,i2⟩:=zdl f v r;rw[show zd5 f v ((k,x)::r)=(if k=f then (k,v)::r else (k,x)::zd5 f v r)from rfl];by_cases hk:k=f
   · rw[z55 hk];subst hk;exact⟨by simp,fun g h=>by simpa using h⟩
   · rw[z6c hk];refine⟨?_,fun g h=>?_⟩
     · rw[z5x];exact z5u _ i1
     · rw[z5x]at h ⊢;rcases z5y.mp h with e | e
       · exact z5y.mpr (.inl e)
       · exact z5u _ (i2 g e)
theorem zdi(f:Str)(v:V):∀fs:List (Str×V),(zd5 f v fs).length<=fs.length+1
 | []=>by simp[zd5]
 | (k,x)::r=>by
   have ih:=zdi f v r;rw[show zd5 f v ((k,x)::r)=(if k=f then (k,v)::r else (k,x)::zd5 f v r)from rfl];by_cases hk:k=f
   · rw[z55 hk,List.length_cons,List.length_cons];omega
   · rw[z6c hk,List.length_cons,List.length_cons];omega
theorem RelO.some_of{v:V}{o:Option Value}(r:RelO (some v) o):∃u,o=some u/\RelV v u:=by
 cases o with
 |none=>exact(show False from r).elim
 |some u=>exact⟨u,rfl,r⟩
theorem RelO.none_of{o:Option Value}(r:RelO none o):o=none:=by
 cases o with
 |none=>rfl
 |some u=>exact(show False from r).elim
theorem zos{v:V}{u:Value}(r:RelV v u):PySem.W.handedIn u=true:=by
 cases v with
 |non=>cases(show u=Value.none from r);rfl
 |bl b=>cases(show u=Value.bool b from r);rfl
 |int i=>obtain⟨t,e⟩:=(show ∃t,u=Value.int i t from r);cases e;rfl
 |str x=>obtain⟨t,e⟩:=(show ∃t,u=Value.str x t from r);cases e;rfl
 |byt b=>obtain⟨t,e⟩:=(show ∃t,u=Value.bytes b t from r);cases e;rfl
 |flt b=>obtain⟨t,e⟩:=(show ∃t,u=Value.float b t from r);cases e;rfl
 |ref a=>cases(show u=Value.ref a from r);rfl
 |ty n=>cases(show u=Value.type n from r);rfl
section
variable {P:Program}{w:World}{H H':Hp}{h h':Heap}{a C dx:Addr}{fs fs':List (Str×V)}
theorem ziv(hok:HOk P w H h)(e:H a=some (.ins C dx fs)):∃mA,ObjM h a dx C mA/\(∀f,RelO (fs.lookup f) (mA f))/\PySem.Within mA (fs.map (·.1))/\fs.length<=1000/\H dx=some (.own a):=by
 obtain⟨d,z,ne,ob,mA,n,r,q⟩:=(show ObjOk P w H h a (.ins C dx fs)from hok a _ e)
 exact⟨mA,⟨ob,n,ne⟩,r,q,z,d⟩
end
structure Cls (K:zFr) (C:Addr):Prop where
 pg:PySem.W.plainGet K C Str.empty=true
 hd:PySem.W.hasDictIn K C=true
 po:PySem.W.plainOver K C=true
 sa:PySem.W.findIn K (.ref C) "__setattr__"=some (some (.builtin "object.__setattr__"))
theorem Cls.get{K:zFr}{C:Addr}(c:Cls K C)(f:Str):PySem.W.plainGet K C f=true:=c.pg
def NoAttr(K:zFr)(C:Addr)(f:Str):Prop:=PySem.W.findIn K (.ref C) f=some none
theorem NoAttr.taker{K:zFr}{C:Addr}{f:Str}(n:NoAttr K C f):PySem.W.takerIn K C f=some none:=by unfold PySem.W.takerIn;rw[show PySem.W.findIn K (.ref C) f=some none from n];rfl
structure Meth (K:zFr) (C:Addr) (m:Str) (f:Addr):Prop where
 at_:PySem.W.findIn K (.ref C) m=some (some (.ref f))
 fn:PySem.W.isFn K (.ref f)=true
 kp:PySem.W.keepIn K (.ref f)=true
section
variable {X:Cx}{pins:zAO}{σ:St}{H:Hp}{s:Shared}{a C dx:Addr}{fs:List (Str×V)}{f:Str}{v:V}{A:Around}{E:zVP}
theorem zlo{b:Bool}{Q:zVP}(I:Inv X pins σ H s)(e:H a=some (.ins C dx fs))(c:Cls X.K C)(n:NoAttr X.K C f)(l:fs.lookup f=some v)
   (h:∀u s',Inv X pins σ H s'->RelV v u->Q u s'):wpAny (model X.prog X.w) A (getAttr (.ref a) f b) Q E s:=by
 obtain⟨mA,O,r,_,_,_⟩:=ziv I.hok e;obtain⟨u,hu,ru⟩:=RelO.some_of (v:=v) (o:=mA f) (by rw[<-l];exact r f);exact zwc I.kIn O (c.get f) c.hd n hu (zos ru) (h u _ (I.tok _) ru)
theorem zln{m:Str}{g:Addr}{pl:Sem Bool}{Q:Value×List Value->Shared->Prop}(I:Inv X pins σ H s)(e:H a=some (.ins C dx fs))(c:Cls X.K C)(k:Meth X.K C m g)(l:fs.lookup m=none)
   (h:Q (.ref g,[.ref a]) s):wpAny (model X.prog X.w) A (getMethod (.ref a) m pl) Q E s:=by
 obtain⟨mA,O,r,_,_,_⟩:=ziv I.hok e;have hn:mA m=none:=RelO.none_of (by rw[<-l];exact r m);exact zrt I.kIn O (c.get m) k.at_ k.fn hn h
theorem zk9{y:V}{u:Value}{Q:Unit->Shared->Prop}(I:Inv X pins σ H s)(e:H a=some (.ins C dx fs))(c:Cls X.K C)(n:NoAttr X.K C f)(hl:fs.length<1000)(ry:RelV y u)
   (h:∀s',Inv X pins σ (upd H a (.ins C dx (zd5 f y fs))) s'->Q () s'):wpAny (model X.prog X.w) A (setAttr (.ref a) f u) Q E s:=by
 obtain⟨mA,O,r,wi,_,ho⟩:=ziv I.hok e;have hz:(fs.map (·.1)).length<=sizeLine:=by rw[z6s,z7b];omega
 refine zu3 I.kIn O c.sa c.po n.taker c.hd wi hz fun h' O' sb=>h _ ?_;have hd:∃o,h'.get? dx=some o:=let⟨o,_,_,e',_⟩:=O'.ns;⟨o,e'⟩;refine I.write (x:=a) (e:=dx) (by rw[e];exact True.intro) (.inr ho) (fun b q hb z=>(sb.2 b hb).trans z) hd ?_;refine⟨by rw[z0 O.ne];exact ho,?_,O.ne,O'.obj,_,O'.ns,fun g=>?_,fun g hg=>?_⟩
 · have:=zdi f y fs;omega
 · show RelO ((zd5 f y fs).lookup g) (if g=f then some u else mA g);rw[zdf];by_cases q:g=f
   · rw[z55 q,z55 q];exact ry
   · rw[z6c q,z6c q];exact r g
 · by_cases q:g=f
   · rw[q];exact(zdl f y fs).1
   · refine(zdl f y fs).2 g (wi g fun z=>hg ?_);show(if g=f then some u else mA g)=none;rw[z6c q];exact z
theorem Inv.made(I:Inv X pins σ H s):Inv X pins σ (upd (upd H s.heap.objs.size (.own (s.heap.objs.size+1))) (s.heap.objs.size+1) (.ins C s.heap.objs.size []))
   { s with heap:=(s.heap.push PySem.W.emptyDict).push (PySem.W.instObj C s.heap.objs.size) }:=by
 have e1:(s.heap.push PySem.W.emptyDict).get? s.heap.objs.size=some PySem.W.emptyDict:=z6o s.heap rfl;have e2:((s.heap.push PySem.W.emptyDict).push (PySem.W.instObj C s.heap.objs.size)).get? (s.heap.objs.size+1)=some (PySem.W.instObj C s.heap.objs.size):=by
   have:=z6o (s.heap.push PySem.W.emptyDict) (o:=PySem.W.instObj C s.heap.objs.size) rfl
   rwa [Heap.size_push]at this
 have e3:(s.heap.push PySem.W.emptyDict).Ns s.heap.objs.size (fun _=>none):=⟨PySem.W.emptyDict,#[],_,e1,rfl,(fun e he=>absurd he (by simp)),fun _=>rfl⟩
 have I1:=I.laid (a:=s.heap.objs.size) (o:=.own (s.heap.objs.size+1)) (h':=s.heap.push PySem.W.emptyDict) (t':=s.toks) (fun b u q=>z5t _ q) (z5p _) ⟨_,e1⟩;refine I1.laid (a:=s.heap.objs.size+1) (o:=.ins C s.heap.objs.size []) (t':=s.toks) (fun b u q=>z5t _ q) (Nat.le_of_eq (Heap.size_push _ _)) ?_;have ne:s.heap.objs.size≠s.heap.objs.size+1:=z56 (z99 _);refine⟨by rw[z0 ne,qg],z66 _,ne,e2,fun _=>none,(Heap.Ns1.of_empty e3).at fun o q=>z5t _ q,fun _=>True.intro,fun y hy=>absurd rfl hy⟩
theorem zw1{prog:Program}{w:World}{env:Env}{e:Expr}{f:Str}{pos:Pos}{s:Shared}{Q:zVP}(hb:attributeBase e f env (eval e env)=eval e env)
   (h:wpAny (model prog w) A (eval e env) (fun o s₁=>wpAny (model prog w) A (getAttr o f true) Q E s₁) E s):wpAny (model prog w) A (eval (.Attribute e f pos) env) Q E s :=
 Attribute_any_ h (by rw[arm_eval_Attribute,hb])
end
def z4u(K:zFr)(ta:TE)(f:Str):TE:=fun σ H Q=>ta σ H fun x H1=>∃a C dx fs v,x=.ref a/\H1 a=some (.ins C dx fs)/\Cls K C/\NoAttr K C f/\fs.lookup f=some v/\Q v H1
def z4z(K:zFr)(ta tv:TE)(f:Str):TS:=fun D σ H=>tv σ H fun y H1=>ta σ H1 fun x H2=>∃a C dx fs,x=.ref a/\H2 a=some (.ins C dx fs)/\Cls K C/\NoAttr K C f/\fs.length<1000 /\
 D.nx σ (upd H2 a (.ins C dx (zd5 f y fs)))
section
variable {X:Cx}{o e value:Expr}{f:Str}{pos pos' tpos:Pos}{ta tv:TE}
theorem zy7(he:PE X e ta)(hb:attributeBase e f X.env (eval e X.env)=eval e X.env):PE X (.Attribute e f pos) (z4u X.K ta f):=by intro pins s σ H Q I h;refine zw1 hb (thn (he pins s σ H _ I h) fun u s1 ⟨x,H1,I1,rx,a,C,dx,fs,v,ex,ea,c,n,l,q⟩=>?_);subst ex;obtain rfl:u=Value.ref a:=rx;exact zlo I1 ea c n l fun u' s2 I2 ru=>⟨v,H1,I2,ru,q⟩
theorem zyt(ha:PE X o ta)(hv:PE X value tv)(hs:swapsWith value (some (.Attribute o f pos')) pos.line X.env=pure false):PS X (.Assign [.Attribute o f pos'] value pos) (z4z X.K ta tv f):=by intro pins s σ H D I h;refine plainObj_wpAny_Assign_Attribute (thn (hv pins s σ H _ I h) fun u s1 ⟨y,H1,I1,ry,q⟩=>thn (ha pins s1 σ H1 _ I1 q) fun ov s2 ⟨x,H2,I2,rx,a,C,dx,fs,ex,ea,c,n,l,q2⟩=>?_) hs;subst ex;obtain rfl:ov=Value.ref a:=rx;exact zk9 I2 ea c n l ry fun s3 I3=>⟨σ,_,I3,q2⟩
end
structure Room (k:Nat) (A:Around):Prop where
 hd:A.handled=none
 dp:A.depth+3*k+5<recursionLimit
 un:A.units+16*k+200<cLine
theorem Room.mono{j k:Nat}{A:Around}(r:Room k A)(h:j<=k):Room j A:=⟨r.hd,by have:=r.dp;omega,by have:=r.un;omega⟩
theorem Room.deeper{k:Nat}{A:Around}(r:Room (k+1) A)(env:Env):Room k (A.deeper env) :=
 ⟨r.hd,by have:=r.dp;show A.depth+1+3*k+5<_;omega,by have:=r.un;show A.units+3+16*k+200<_;omega⟩
theorem zlk{A:Around}{C:Addr}{us:List Value}{kw:List (Str×Value)}:(A.under (.builtin "type.__call__" ⟨.ref C::us,kw⟩)).depth=A.depth+1:=by
 first | rfl | simp[Around.under,Code.weight,Code.isCreation,Code.isGuard,Code.isCaller,Code.frames,Code.isFrame,guardIds]
theorem zli{A:Around}{C:Addr}{us:List Value}{kw:List (Str×Value)}:(A.under (.builtin "type.__call__" ⟨.ref C::us,kw⟩)).units=A.units+1:=by
 first | rfl | simp[Around.under,Code.cUnits,Code.frames,Code.isFrame]
theorem Room.make{k:Nat}{A:Around}(r:Room (k+1) A)(C:Addr)(us:List Value)(kw:List (Str×Value)):Room k (A.under (.builtin "type.__call__" ⟨.ref C::us,kw⟩)) :=
 ⟨r.hd,by have:=r.dp;rw[zlk];omega,by have:=r.un;rw[zli];omega⟩
theorem Room.depth{k:Nat}{A:Around}(r:Room k A):A.depth<recursionLimit:=by have:=r.dp;omega
def z2d:TA:=fun _ H Q=>Q [] H
def zx3(ta:TE)(tr:TA):TA:=fun σ H Q=>ta σ H fun x H1=>tr σ H1 fun xs H2=>Q (x::xs) H2
section
variable {X:Cx}{e:Expr}{es:List Expr}{te:TE}{t:TA}{pos:Pos}
theorem ztg:PA X [] z2d:=fun _ _ _ _ H Q I h=>Calls.spliced_nil ⟨[],H,I,.nil,h⟩
theorem znv(ha:PE X e te)(hr:PA X es t)(hs:starEach (e::es) X.env=(false,eval e X.env)::starEach es X.env:=by rfl):PA X (e::es) (zx3 te t):=by intro pos pins s σ H Q I h;rw[hs];show wpAny _ _ (spliced ((false,eval e X.env)::backTo pos (starEach es X.env))) _ _ s;refine Calls.spliced_cons (thn (ha pins s σ H _ I h) fun u s1 ⟨x,H1,I1,r1,q1⟩=>?_);exact thn (hr pos pins s1 σ H1 _ I1 q1) fun us s2 ⟨xs,H2,I2,r2,q2⟩=>⟨x::xs,H2,I2,.cons r1 r2,q2⟩
def z4n(t:TA):TE:=fun σ H Q=>t σ H fun xs H1=>xs.length<=sizeLine/\∀p,H1 p=none->Q (.ref p) (upd H1 p (.tup xs))
def z4r(t:TA):TE:=fun σ H Q=>t σ H fun xs H1=>xs.length<=sizeLine/\∀p,H1 p=none->Q (.ref p) (upd H1 p (.lst xs))
theorem zy1{x1}(h:PA X es t):PE X (.Tuple es x1 pos) (z4n t):=by intro pins s σ H Q I hq;refine wpAny_Tuple_spliced (thn (h pos pins s σ H _ I hq) fun us s1 ⟨xs,H1,I1,r,z,q⟩=>⟨by rw[<-r.length];exact z,?_⟩);have hf:H1 s1.heap.objs.size=none:=I1.hok.fresh (z5p _);refine⟨.ref s1.heap.objs.size,upd H1 s1.heap.objs.size (.tup xs),I1.laid (t':=s1.toks) (fun b u e=>z5t _ e) (z5p _) ?_,rfl,q _ hf⟩;exact⟨z,us,r,⟨_,z6o _ rfl,rfl,_,rfl⟩⟩
theorem ztf(h:PA X es t):PE X (.List es pos) (z4r t):=by intro pins s σ H Q I hq;refine wpAny_List_spliced (thn (h pos pins s σ H _ I hq) fun us s1 ⟨xs,H1,I1,r,z,q⟩=>⟨by rw[<-r.length];exact z,?_⟩);have hf:H1 s1.heap.objs.size=none:=I1.hok.fresh (z5p _);refine⟨.ref s1.heap.objs.size,upd H1 s1.heap.objs.size (.lst xs),I1.laid (t':=s1.toks) (fun b u e=>z5t _ e) (z5p _) ?_,rfl,q _ hf⟩;exact⟨z,us,0,r,z6o _ rfl⟩
end
abbrev Sp:=List V->Hp->VK->XK->Prop
abbrev CXT:=List Env->Hp->Shared->XK->zVP
structure Env0 (P:Program) (w:World) (K:zFr) (mg:zMg) (base:Heap) (A:Around) (outer:List Env) (s:Shared) (H:Hp):Prop where
 frames:A.frames=some outer
 mod:Mod K mg base
 bs:∀b o,base.get? b=some o->s.heap.get? b=some o/\H b=none
 bsz:base.objs.size<=s.heap.objs.size
 funs:s.heap.FunFrames base outer
 frf:∀b∈frs outer,H b=none
 hok:HOk P w H s.heap
 bare:AllBare s.gens
def CE(outer:List Env)(P:Program)(w:World)(H:Hp)(s:Shared)(Q:VK)(u:Value)(s':Shared):Prop :=
 ∃v H',s'.os=s.os/\AllBare s'.gens/\Un (frs outer) [] H H' s.heap s'.heap/\HOk P w H' s'.heap/\RelV v u/\Q v H'
def CR(CX:CXT)(outer:List Env)(P:Program)(w:World)(H:Hp)(s:Shared)(Q:VK)(E:XK)(r:Result)(s':Shared):Prop :=
 match r with
 | .ok (.ret u)=>CE outer P w H s Q u s'
 | .ok _=>False
 | .error e=>CX outer H s E e s'
structure FnOk (P:Program) (w:World) (K:zFr) (mg:zMg) (base:Heap) (CX:CXT) (k:Nat) (f:Addr) (fd:FuncData) (ps:List Str) (sp:Sp):Prop where
 len:∀vs H Q E,sp vs H Q E->vs.length=ps.length
 run:∀(A:Around) (outer:List Env) (s:Shared) (H:Hp) (args:Args) (us:List Value) (vs:List V) (Q:VK) (E:XK),Room k A->Env0 P w K mg base A outer s H->BindsTo s fd args (ps.zip us)->Vals vs us->sp vs H Q E ->
   codeAny (model P w) A (.call (.ref f) args) (CR CX outer P w H s Q E) s
theorem FnOk.mono{P:Program}{w:World}{K:zFr}{mg:zMg}{base:Heap}{CX:CXT}{j k:Nat}{f:Addr}{fd:FuncData}{ps:List Str}{sp:Sp}(F:FnOk P w K mg base CX j f fd ps sp)(h:j<=k) :
   FnOk P w K mg base CX k f fd ps sp:=⟨F.len,fun A outer s H args us vs Q E hr=>F.run A outer s H args us vs Q E (hr.mono h)⟩
theorem FnOk.imp{P:Program}{w:World}{K:zFr}{mg:zMg}{base:Heap}{CX:CXT}{k:Nat}{f:Addr}{fd:FuncData}{ps:List Str}{sp sp':Sp}(F:FnOk P w K mg base CX k f fd ps sp)
   (h:∀vs H Q E,sp' vs H Q E->sp vs H Q E):FnOk P w K mg base CX k f fd ps sp' :=
 ⟨fun vs H Q E q=>F.len vs H Q E (h _ _ _ _ q),fun A outer s H args us vs Q E hr he hb hv hs=>F.run A outer s H args us vs Q E hr he hb hv (h _ _ _ _ hs)⟩
theorem Env0.make{P:Program}{w:World}{K:zFr}{mg:zMg}{base:Heap}{A:Around}{outer:List Env}{s:Shared}{H:Hp}(e:Env0 P w K mg base A outer s H)(C:Addr)(us:List Value)(kw:List (Str×Value)) :
   Env0 P w K mg base (A.under (.builtin "type.__call__" ⟨.ref C::us,kw⟩)) outer s H:=⟨by first | exact e.frames | (simpa [Around.under,Code.envs,Code.isFrame,pushEnvs] using e.frames),e.mod,e.bs,e.bsz,e.funs,e.frf,e.hok,e.bare⟩
section
variable {X:Cx}{pins:zAO}{σ:St}{H:Hp}{s s':Shared}
theorem Inv.env0(I:Inv X pins σ H s):Env0 X.prog X.w X.K X.mg X.base X.A X.stack s H :=
 ⟨I.ok.frames,I.ok.mod,I.bs,z6h I.ok.bsz I.sz,I.stack,I.stkFree,I.hok,I.bare⟩
theorem Inv.after{Q:VK}{u:Value}(I:Inv X pins σ H s)(h:CE X.stack X.prog X.w H s Q u s'):EP X pins σ Q u s':=by obtain⟨v,H',os,bare,un,hok,r,q⟩:=h;obtain⟨hh,g,d,t,os'⟩:=s';obtain rfl:os'=s.os:=os;exact⟨v,H',I.call (h':=hh) (g':=g) (d':=d) (t':=t) (ch:=[]) un hok bare (fun b z=>absurd z (by simp)),r,q⟩
end
def zqo(sp:Sp)(dvs:List V)(E:XK)(t:TA):TE:=fun σ H Q=>t σ H fun vs H1=>sp (vs++dvs) H1 Q E
def z2f(C:Addr)(m:Str)(sp:Sp)(dvs:List V)(E:XK)(ta:TE)(t:TA):TE:=fun σ H Q=>ta σ H fun x H1=>∃a dx fs,x=.ref a/\H1 a=some (.ins C dx fs)/\fs.lookup m=none /\
 t σ H1 fun vs H2=>sp (x::(vs++dvs)) H2 Q E
def zx1(C:Addr)(sp:Sp)(dvs:List V)(E:XK)(t:TA):TE:=fun σ H Q=>t σ H fun vs H1=>∀x dx,H1 x=none->H1 dx=none->dx≠x ->
 sp (.ref x::(vs++dvs)) (upd (upd H1 dx (.own x)) x (.ins C dx [])) (fun v H2=>v=.non/\Q (.ref x) H2) E
def Binds(K:zFr)(fd:FuncData)(ps:List Str)(ds:List Value):Prop :=
 ∀(s:Shared) (us:List Value),K.In s.heap->(us++ds).length=ps.length->BindsTo s fd ⟨us,[]⟩ (ps.zip (us++ds))
theorem Binds.all{K:zFr}{fd:FuncData}{ps:List Str}(h:∀us:List Value,us.length=ps.length->bindArgs fd ⟨us,[]⟩=pure (ps.zip us)):Binds K fd ps []:=fun s us _ hl=>by rw[z6e]at hl ⊢;exact .of_eq (h us hl)
def zd4(CX:CXT)(X:Cx)(E:XK):Prop:=∀(pins:zAO) (σ:St) (H:Hp) (s:Shared) (e:Value) (s':Shared),Inv X pins σ H s->CX X.stack H s E e s'->X.xe e s'
section
variable {X:Cx}{CX:CXT}{k:Nat}{f C:Addr}{fd:FuncData}{ps:List Str}{sp:Sp}{dvs:List V}{ds:List Value}{E:XK}{x m:Str}{p pos apos:Pos}{e o:Expr}{es:List Expr}{ta:TE}{t:TA}
theorem zgk{pins:zAO}{σ:St}{H:Hp}{s:Shared}{Q:VK}{us:List Value}{vs:List V}(F:FnOk X.prog X.w X.K X.mg X.base CX k f fd ps sp)(hr:Room k X.A)(hb:Binds X.K fd ps ds)(hd:Vals dvs ds)(hx:zd4 CX X E)
   (I:Inv X pins σ H s) (r:Vals vs us) (h:sp (vs++dvs) H Q E):wpAny (model X.prog X.w) X.A (call (.ref f) us) (EP X pins σ Q) X.xe s:=by
 have r2:Vals (vs++dvs) (us++ds):=r.append hd;have hl:(us++ds).length=ps.length:=by rw[<-r2.length];exact F.len _ _ _ _ h
 refine qa4 (z95 (F.run X.A X.stack s H ⟨us,[]⟩ (us++ds) (vs++dvs) Q E hr I.env0 (hb s us I.kIn hl) r2 h) fun r s' hq=>?_);cases r with
 |error e=>exact hx pins σ H s e s' I hq
 | ok fl=>
   cases fl with
   |ret u=>exact I.after hq
   |next=>exact False.elim hq
   |brk=>exact False.elim hq
   |cont=>exact False.elim hq
theorem zvq(F:FnOk X.prog X.w X.K X.mg X.base CX k f fd ps sp)(hr:Room k X.A)(hg:Gl X x)(hm:X.mg x=some (.ref f))(hk:PySem.W.keepIn X.K (.ref f)=true)(hb:Binds X.K fd ps ds)(hd:Vals dvs ds)(hx:zd4 CX X E)
   (ha:PA X (e::es) t) (hdb:(x==("__debug__":Str))=false:=by decide) (he:starEach (e::es) X.env=(false,eval e X.env)::starEach es X.env:=by rfl) (hpl:(backTo pos (starEach es X.env)).any (·.1)=false:=by rfl) :
   PE X (.Call (.Name x p) (e::es) [] pos) (zqo sp dvs E t):=by
 intro pins s σ H Q I h;refine z7y (y9 I hg hm ?_ hdb);refine z80 (h₀:=X.base) I.ok.mod.kin hk (thn (ha pos pins s σ H _ I h) fun us s1 ⟨vs,H1,I1,r,q⟩=>⟨I1.kIn,?_⟩) he hpl;exact zgk F hr hb hd hx I1 r q
theorem zvo{pl:Sem Bool}(he:PE X o ta)(c:Cls X.K C)(hm:Meth X.K C m f)(F:FnOk X.prog X.w X.K X.mg X.base CX k f fd ps sp)(hr:Room k X.A)(hb:Binds X.K fd ps ds)(hd:Vals dvs ds)(hx:zd4 CX X E)(ha:PA X (e::es) t)
   (hst:starEach (e::es) X.env=(false,eval e X.env)::starEach es X.env:=by rfl) (hpl:(backTo pos (starEach es X.env)).any (·.1)=false:=by rfl)
   (ht:eval (.Call (.Attribute o m apos) (e::es) [] pos) X.env=(do
     let ov <-eval o X.env
     standAt apos.atName
     let(f,first) <-holding [ov] (getMethod ov m pl)
     callWith pos f first (backTo pos (starEach (e::es) X.env)) (backToKw pos (keywordEach [] X.env))):=by rfl) :
   PE X (.Call (.Attribute o m apos) (e::es) [] pos) (z2f C m sp dvs E ta t):=by
 intro pins s σ H Q I h;refine PySem.W.methodCall_KW (pl:=pl) (thn (he pins s σ H _ I h) fun u s1 ⟨x,H1,I1,rx,a,dx,fs,ex,ea,l,q⟩=>?_) ht;subst ex;obtain rfl:u=Value.ref a:=rx;refine zln I1 ea c hm l ?_;refine z80 (first:=[.ref a]) (h₀:=X.base) I.ok.mod.kin hm.kp (thn (ha pos pins s1 σ H1 _ I1 q) fun us s2 ⟨vs,H2,I2,r,q2⟩=>⟨I2.kIn,?_⟩) hst hpl;exact zgk (us:=.ref a::us) (vs:=.ref a::vs) F hr hb hd hx I2 (.cons rfl r) q2
structure Mk (K:zFr) (C f:Addr):Prop where
 makes:PySem.W.makesIn K C=true
 init:PySem.W.findIn K (.ref C) "__init__"=some (some (.ref f))
 fn:PySem.W.isFn K (.ref f)=true
 kp:PySem.W.keepIn K (.ref C)=true
theorem zqy{pins:zAO}{σ:St}{H:Hp}{s:Shared}{Q:VK}{us:List Value}{vs:List V}(M:Mk X.K C f)(F:FnOk X.prog X.w X.K X.mg X.base CX k f fd ps sp)(hr:Room (k+1) X.A)(hb:Binds X.K fd ps ds)(hd:Vals dvs ds)
   (hx:zd4 CX X E) (I:Inv X pins σ H s) (r:Vals vs us)
   (h:∀x dx,H x=none->H dx=none->dx≠x->sp (.ref x::(vs++dvs)) (upd (upd H dx (.own x)) x (.ins C dx [])) (fun v H2=>v=.non/\Q (.ref x) H2) E) :
   wpAny (model X.prog X.w) X.A (call (.ref C) us) (EP X pins σ Q) X.xe s:=by
 have hq:=h (s.heap.objs.size+1) s.heap.objs.size (I.hok.fresh (qbm _)) (I.hok.fresh (z5p _)) (z56 (z99 _));have I2:=Inv.made (C:=C) I;have r2:Vals (V.ref (s.heap.objs.size+1)::(vs++dvs)) (Value.ref (s.heap.objs.size+1)::(us++ds)):=.cons rfl (r.append hd);have hl:(Value.ref (s.heap.objs.size+1)::us++ds).length=ps.length:=by have e:=r2.length;rw[F.len _ _ _ _ hq]at e;exact e.symm
 refine qa4 (zrj (f:=f) I.kIn M.makes M.init (z74.mp M.fn) (z95 (F.run _ X.stack _ _ ⟨Value.ref (s.heap.objs.size+1)::us,[]⟩ (Value.ref (s.heap.objs.size+1)::(us++ds)) _ _ E (hr.make C us [])
   (I2.env0.make C us []) (hb _ (Value.ref (s.heap.objs.size+1)::us) I2.kIn hl) r2 hq) fun r s' hq'=>?_))
 cases r with
 |error e=>exact hx pins σ _ _ e s' I2 hq'
 | ok fl=>
   cases fl with
   | ret u=>
     obtain⟨v,H',I3,rv,ev,q3⟩:=I2.after hq';subst ev;exact⟨rv,⟨V.ref (s.heap.objs.size+1),H',I3,rfl,q3⟩⟩
   |next=>exact False.elim hq'
   |brk=>exact False.elim hq'
   |cont=>exact False.elim hq'
theorem zrd(M:Mk X.K C f)(F:FnOk X.prog X.w X.K X.mg X.base CX k f fd ps sp)(hr:Room (k+1) X.A)(hg:Gl X x)(hm:X.mg x=some (.ref C))(hb:Binds X.K fd ps ds)(hd:Vals dvs ds)(hx:zd4 CX X E)
   (hdb:(x==("__debug__":Str))=false:=by decide):PE X (.Call (.Name x p) [] [] pos) (zx1 C sp dvs E z2d):=by
 intro pins s σ H Q I h;refine z7y (y9 I hg hm ?_ hdb);exact PySem.W.callWith_K0 I.kIn M.kp (zqy (us:=[]) M F hr hb hd hx I .nil h)
end
structure FnScope (N P:List Str) (sc:Scope):Prop where
 kind:sc.kind=.function
 co:sc.isCoroutine=false
 gen:sc.isGenerator=false
 nd:N.Nodup
 pre:N.take P.length=P
 par:∀x∈P,sc.names.lookup x=some .local\/sc.names.lookup x=some .cell
 nofree:∀y∈sc.names,y.2≠.free
theorem zho{kindOf:Str->Option NameKind}{x:Str}:∀{binds:List (Str×Value)}{m:zMg},(∀v,(x,v)∉binds)->bindL kindOf binds m x=m x
 | [],_,_=>rfl
 | (n,v)::r,m,h=>by
   unfold bindL;rw[zho fun w hw=>h w (z5u _ hw)];split
   · have:x≠n:=by rintro rfl;exact h v z5z
     simp[this]
   · rfl
theorem zhq{kindOf:Str->Option NameKind}{x:Str}:∀{binds:List (Str×Value)}{m:zMg},(∀v,(x,v)∉binds)->bindC kindOf binds m x=m x
 | [],_,_=>rfl
 | (n,v)::r,m,h=>by
   unfold bindC;rw[zhq fun w hw=>h w (z5u _ hw)];split
   · rfl
   · have:x≠n:=by rintro rfl;exact h v z5z
     simp[this]
theorem zhp{kindOf:Str->Option NameKind}{x:Str}{v:Value}:∀{P:List Str}{vs:List Value}{i:Nat}{m:zMg},P.Nodup->P[i]? = some x->vs[i]? = some v->kindOf x=some .local ->
   bindL kindOf (P.zip vs) m x=some v
 | [],_,_,_,_,h,_,_=>by simp at h
 |_::_,[],_,_,_,_,h,_=>by simp at h
 | p::P,w::vs,0,m,nd,h1,h2,hk=>by simp at h1 h2;subst h1;subst h2;show bindL kindOf ((p,w)::P.zip vs) m p=_;unfold bindL;rw[zho fun v hv=>(z7v.mp nd).1 (z7w hv).1,z55 hk];simp
 | p::P,w::vs,i+1,m,nd,h1,h2,hk=>by show bindL kindOf ((p,w)::P.zip vs) m x=_;unfold bindL;exact zhp (i:=i) (z7v.mp nd).2 (by simpa using h1) (by simpa using h2) hk
theorem zhr{kindOf:Str->Option NameKind}{x:Str}{v:Value}:∀{P:List Str}{vs:List Value}{i:Nat}{m:zMg},P.Nodup->P[i]? = some x->vs[i]? = some v->kindOf x≠some .local ->
   bindC kindOf (P.zip vs) m x=some v
 | [],_,_,_,_,h,_,_=>by simp at h
 |_::_,[],_,_,_,_,h,_=>by simp at h
 | p::P,w::vs,0,m,nd,h1,h2,hk=>by simp at h1 h2;subst h1;subst h2;show bindC kindOf ((p,w)::P.zip vs) m p=_;unfold bindC;rw[zhq fun v hv=>(z7v.mp nd).1 (z7w hv).1,z6c hk];simp
 | p::P,w::vs,i+1,m,nd,h1,h2,hk=>by show bindC kindOf ((p,w)::P.zip vs) m x=_;unfold bindC;exact zhr (i:=i) (z7v.mp nd).2 (by simpa using h1) (by simpa using h2) hk
def start(N:List Str)(vs:List V):St:=vs.map some++List.replicate (N.length-vs.length) none
def zca(CX:CXT)(P:Program)(w:World)(K:zFr)(mg:zMg)(base:Heap)(N:List Str)(qual:Str)(scope:Scope)(f:Addr)(cd:Value)(A:Around)(outer:List Env)(s:Shared)(H:Hp)(E:XK):Cx where
 prog:=P
 w:=w
 K:=K
 mg:=mg
 base:=base
 A:=A.deeper (envOfC qual scope s.heap.objs.size f cd)
 N:=N
 s₀:=s
 H₀:=H
 env:=envOfC qual scope s.heap.objs.size f cd
 outer:=outer
 stack:=envOfC qual scope s.heap.objs.size f cd::outer
 ex:=[]
 calm:=true
 fn:=fun _=>true
 pn:=[]
 xe:=fun e s'=>wpAny (model P w) (A.deeper (envOfC qual scope s.heap.objs.size f cd)) (leaving (envOfC qual scope s.heap.objs.size f cd) e) (fun _ s''=>CX outer H s E e s'') (fun e' s''=>CX outer H s E e' s'') s'
theorem zkt{sc:Scope}{n:Nat}{x:Str}(h:sc.names.lookup x=some .cell):∃c,(cellsFrom n sc.names []).lookup x=some c:=by have q:=PySem.W.cellsFrom_some sc.names n [] (.inl h);exact z7z.mp q
theorem zdp{CX:CXT}{P:Program}{w:World}{K:zFr}{mg:zMg}{base:Heap}{N ps:List Str}{qual:Str}{scope:Scope}{f:Addr}{cd:Value}{A:Around}{outer:List Env}{s s1:Shared}{H:Hp}{E:XK}{us:List Value}{vs:List V}
   (S:FnScope N ps scope) (hd:A.handled=none) (e0:Env0 P w K mg base A outer s H) (hl:vs.length=ps.length) (r:Vals vs us)
   (x:InCallC s s.heap.objs.size (bindL (envOfC qual scope s.heap.objs.size f cd).kindOf (ps.zip us) fun _=>none) (cellsFrom (s.heap.objs.size+1) scope.names []) (bindC (envOfC qual scope s.heap.objs.size f cd).kindOf (ps.zip us) fun _=>none) s1) :
   Inv (zca CX P w K mg base N qual scope f cd A outer s H E) [] (start N vs) H s1:=by
 have hpl:ps.length<=N.length:=by have:=z7k List.length S.pre;rw[z6m]at this;omega
 obtain⟨h1,tk,rfl,hk⟩:=x.done;have noA:∀b:Addr,b∉(zca CX P w K mg base N qual scope f cd A outer s H E).ex:=fun b z=>absurd (show b∈([]:List Addr)from z) (by simp);refine⟨⟨e0.mod,S.kind,rfl,rfl,z5p _,fun y z c h1 h2=>?_,fun y hy=>?_,fun y c _ h=>?_,fun _=>hd,Around.frames_deeper e0.frames,.inr ⟨rfl,rfl⟩,fun b z=>absurd z (noA b),e0.bs,e0.bsz,fun b _ _=>noA b,fun b z=>absurd z (noA b),e0.funs,e0.frf⟩,
   rfl,e0.bare,Un.kept hk,⟨_,x.toInCall.ns,fun i y v h1 h2 h3=>?_⟩,fun y c h=>⟨_,x.cell y c h⟩,e0.hok.fresh (z5p _),fun y c h=>?_,fun p hp=>absurd (show p∈([]:zAO)from hp) (by simp),e0.hok.kept hk,?_⟩
 · exact name_of_addr x.apart (z7t h1) (z7t h2)
 · have hy:scope.names.lookup y=some .cell\/scope.names.lookup y=some .free:=hy;rcases hy with hy | hy
   · exact zkt hy
   · exact absurd rfl (S.nofree _ (z7t hy))
 · exact z7g (x.above y c (z7t h))
 · have hi:i<vs.length:=by
     unfold start at h2;by_cases hi:i<vs.length
     · exact hi
     · rw[z51 (by simpa using hi)]at h2;rw[List.getElem?_replicate]at h2;split at h2<;>cases h2
   have ha:vs[i]? = some v:=by
     unfold start at h2;rw[z6n (by simpa using hi),z6u]at h2;cases e:vs[i]? with
     |none=>rw[e]at h2;cases h2
     |some a=>rw[e]at h2;cases h2;rfl
   obtain⟨u,hu,rv⟩:=r.get ha;have hp:ps[i]? = some y:=by rw[<-S.pre,z8m (by omega)];exact h1
   have ndP:ps.Nodup:=by rw[<-S.pre];exact S.nd.sublist (z90 _ _)
   refine⟨u,rv,?_⟩;rcases S.par y (z6j hp)with k | k
   · exact .inl ⟨k,zhp ndP hp hu k⟩
   · obtain⟨c,e⟩:=zkt (n:=s.heap.objs.size+1) k;refine .inr ⟨.inl k,c,e,?_⟩;have q:=x.cell y c e;rw[zhr ndP hp hu (by show scope.names.lookup y≠_;rw[k];decide)]at q;exact q
 · exact e0.hok.fresh (z7g (x.above y c (z7t h)))
 · unfold start;show _=N.length;rw[z5n,z6s,List.length_replicate];omega
theorem zz2{CX:CXT}{P:Program}{w:World}{K:zFr}{mg:zMg}{base:Heap}{k:Nat}{f:Addr}{name qual:Str}{params:Arguments}{body:List Stmt}{scope:Scope}{dV kV doc pm cdv ct oc:Value}{an od:Option Addr}
   {osl:Array (Option Value)}{N ps:List Str}{sp:Sp} (lk:K.lookup f=some ⟨oc,od,.func (PySem.W.fnOf name qual params body scope dV kV doc pm an cdv ct),osl⟩) (hcd:PySem.W.codeIn K cdv qual=true) (S:FnScope N ps scope)
   (len:∀vs H Q E,sp vs H Q E->vs.length=ps.length)
   (hbody:∀(A:Around) (outer:List Env) (s:Shared) (H:Hp) (vs:List V) (Q:VK) (E:XK),Room k (A.deeper (envOfC qual scope s.heap.objs.size f cdv))->sp vs H Q E ->
     ∃t,PSs (zca CX P w K mg base N qual scope f cdv A outer s H E) body t/\t { nx:=fun _ H'=>Q .non H',rt:=Q } (start N vs) H) :
   FnOk P w K mg base CX (k+1) f (PySem.W.fnOf name qual params body scope dV kV doc pm an cdv ct) ps sp:=by
 refine⟨len,fun A outer s H args us vs Q E hr e0 hb r hsp=>?_⟩;have hl:=len _ _ _ _ hsp;have KX:K.In s.heap:=e0.mod.kin.keeps fun b o e=>(e0.bs b o e).1;have lim:s.heap.NoLimit:=e0.mod.nolimit.keeps fun b o e=>(e0.bs b o e).1;have hkind:∀y∈ps.zip us,scope.names.lookup y.1=some .local\/(scope.names.lookup y.1=some .cell/\((cellsFrom (s.heap.objs.size+1) scope.names []).lookup y.1).isSome=true):=fun⟨n,v⟩ hy=>by
   rcases S.par n (z7w hy).1 with q | q
   · exact .inl q
   · exact .inr ⟨q,PySem.W.cellsFrom_some _ _ _ (.inl q)⟩
 refine z96 hr.depth (KX _ _ lk) rfl S.co S.gen rfl (PySem.W.codeRec_of KX hcd) (hb _ _ _ _ ?_);refine z9c S.kind hkind fun env he s1 x=>?_;subst he;refine⟨lim.keeps x.toInCall.keep,codeAny_func ?_⟩;obtain⟨t,ht,hq⟩:=hbody A outer s H vs Q E (hr.deeper _) hsp;have I:Inv (zca CX P w K mg base N qual scope f cdv A outer s H E) [] (start N vs) H s1:=zdp S hr.hd e0 hl r x;refine z73 (ht [] s1 (start N vs) H _ I hq) (fun fl s' hs=>?_) fun e s' hs=>hs;have fin:∀{σ':St}{H':Hp}{v:V}{u:Value},Inv (zca CX P w K mg base N qual scope f cdv A outer s H E) [] σ' H' s'->RelV v u->Q v H'->CE outer P w H s Q u s' :=
   fun {σ' H' v u} J rv q=>⟨v,H',J.os,J.bare,J.base,J.hok,rv,q⟩
 cases fl with
 | ret u=>
   obtain⟨v,σ',H',J,rv,q⟩:=hs;exact fin J rv q
 | next=>
   obtain⟨σ',H',J,q⟩:=hs;exact fin (v:=V.non) (u:=Value.none) J rfl q
 | brk=>
   obtain⟨_,_,_,q⟩:=hs;exact False.elim q
 | cont=>
   obtain⟨_,_,_,q⟩:=hs;exact False.elim q
section
variable {X:Cx}{x:Str}{p pos:Pos}{e:Expr}{es:List Expr}{t:TA}{id T:String}{r:List V->Hp->VK->Prop}
def tCB(r:List V->Hp->VK->Prop)(t:TA):TE:=fun σ H Q=>t σ H fun vs H1=>r vs H1 Q
theorem zjw(hc:CallR X (.builtin id) r)(hg:Gl X x)(hm:X.mg x=none)(hv:bootBuiltins x=some (.builtin id))(ha:PA X (e::es) t)(hn:x≠"__name__":=by decide)(hdb:(x==("__debug__":Str))=false:=by decide)
   (he:starEach (e::es) X.env=(false,eval e X.env)::starEach es X.env:=by rfl) (hpl:(backTo pos (starEach es X.env)).any (·.1)=false:=by rfl):PE X (.Call (.Name x p) (e::es) [] pos) (tCB r t):=by
 intro pins s σ H Q I h;refine z7y (zgz I hg hm hv ?_ hn hdb);exact PyProof.Rows.callWith_builtin1 (thn (ha pos pins s σ H _ I h) fun us s1 ⟨vs,H1,I1,r1,q1⟩=>hc pins s1 σ H1 vs us Q I1 r1 q1) he hpl
theorem zns(hc:CallR X (.type T) r)(hg:Gl X x)(hm:X.mg x=none)(hv:bootBuiltins x=some (.type T))(ha:PA X (e::es) t)(hn:x≠"__name__":=by decide)(hdb:(x==("__debug__":Str))=false:=by decide)
   (he:starEach (e::es) X.env=(false,eval e X.env)::starEach es X.env:=by rfl) (hpl:(backTo pos (starEach es X.env)).any (·.1)=false:=by rfl):PE X (.Call (.Name x p) (e::es) [] pos) (tCB r t):=by
 intro pins s σ H Q I h;refine z7y (zgz I hg hm hv ?_ hn hdb);exact z83 (thn (ha pos pins s σ H _ I h) fun us s1 ⟨vs,H1,I1,r1,q1⟩=>hc pins s1 σ H1 vs us Q I1 r1 q1) he hpl
end
end L2
namespace HT
open PySem PyProof.Rows
section
open PySem.SeqAt
open PySem.AutoSeq1 (wpAny_loadPart')
open PySem.MeetsSeq PySem.MeetsSeq2 PySem.MeetsSeq3
end
section
variable {prog:Program}{w:World}{A:Around}{E:zVP}{s:Shared}
theorem cat_tup{t b:Addr}{vs ws:List Value}{Q:zVP}(ht:IsTup s.heap t vs.toArray)(hb:IsTup s.heap b ws.toArray)(hv:vs≠[])
   (h1:ws=[]->Q (.ref t) s) (h2:ws≠[]->Q (.ref s.heap.objs.size) { s with heap:=s.heap.push { cls:=.type "tuple",data:=.seq (vs++ws).toArray } })
   (hsz:vs.length+ws.length<=sizeLine):wpAny (model prog w) A (binaryOp .Add (.ref t) (.ref b)) Q E s:=by
 obtain⟨⟨cls,dd,data,sl⟩,ho,hc,n,hd⟩:=id ht;obtain⟨⟨cls2,dd2,data2,sl2⟩,ho2,hc2,n2,hd2⟩:=id hb;simp only at hc hd hc2 hd2;subst hc hd hc2 hd2;have e:vs.toArray++ws.toArray=(vs++ws).toArray:=by simp
 by_cases hw:ws=[]
 · exact qbd ⟨_,ho,rfl⟩ ⟨_,ho2,rfl⟩ noFill_tuple_add seq_tuple_add z9y z9r (z9m _ _)
     (tuple_addW1 t b vs.toArray ws.toArray n n2 dd dd2 sl sl2 (by simpa using hv) (by simp[hw])) ⟨ho,ho2,h1 hw⟩
 · refine qbd ⟨_,ho,rfl⟩ ⟨_,ho2,rfl⟩ noFill_tuple_add seq_tuple_add z9y z9r (z9m _ _)
     (tuple_addW2 t b vs.toArray ws.toArray n n2 dd dd2 sl sl2 (by simpa using hv) (by simpa using hw) (by rw[z6d,z6d];exact hsz)) ⟨ho,ho2,?_⟩
   rw[e];exact h2 hw
def sIx(n d:Nat):Option Int->Nat
 |none=>d
 |some v=>if v<0 then (v+(n:Int)).toNat else min v.toNat n
theorem zye(n d:Nat)(hd:d<=n)(o:Option Int):sIx n d o<=n:=by
 cases o with
 |none=>exact hd
 | some v=>
   show(if v<0 then (v+(n:Int)).toNat else min v.toNat n)<=n;by_cases hv:v<0
   · rw[z55 hv];omega
   · rw[z6c hv];exact Nat.min_le_right _ _
theorem zpw(v:Int)(n d:Nat):(if v<0 then max (v+(n:Int)) 0 else min v (n:Int))=((sIx n d (some v):Nat):Int):=by
 show(if v<0 then max (v+(n:Int)) 0 else min v (n:Int))=(((if v<0 then (v+(n:Int)).toNat else min v.toNat n):Nat):Int)
 by_cases hv:v<0
 · simp only[z55 hv];omega
 · simp only[z6c hv];omega
theorem zl6(lo hi:Option Int)(n:Nat):Builtin.Slice.sliceAdjust lo hi 1 (n:Int)=(((sIx n 0 lo:Nat):Int),((sIx n n hi:Nat):Int)):=by
 have h1:¬ ((1:Int)<0):=by omega
 unfold Builtin.Slice.sliceAdjust;simp only[h1,z61];refine Prod.ext ?_ ?_
 · cases lo with
   |none=>rfl
   |some v=>exact zpw v n 0
 · cases hi with
   |none=>rfl
   |some v=>exact zpw v n n
theorem zle(i j:Nat):Builtin.Slice.slicePlaces (i:Int) (j:Int) 1=j-i:=by
 unfold Builtin.Slice.slicePlaces;have h1:(1:Int)>0:=by omega
 simp only[h1,z7l,Int.ediv_one];split<;>omega
theorem zei{v:Value}{o:Option Int}{Q:Option Int->Shared->Prop}(p:IsPart v o)(h:Q o s):wpAny (model prog w) A (Builtin.Slice.slicePartIndex v) Q E s:=by
 cases p with
 |none=>exact slicePart_none h
 |int i t=>exact slicePart_int h
theorem zce{sl:Addr}{vl vu:Value}{lo hi:Option Int}{n:Nat}{Q:Int×Int×Nat->Shared->Prop}(hs:s.heap.IsSliceOf sl vl vu .none)(pl:IsPart vl lo)(pu:IsPart vu hi)
   (h:Q (((sIx n 0 lo:Nat):Int),1,sIx n n hi-sIx n 0 lo) s):wpAny (model prog w) A (Builtin.Slice.sliceApplied (.ref sl) (pure (n:Int))) Q E s:=by
 obtain⟨os,hos,hcs,hds⟩:=id hs;unfold Builtin.Slice.sliceApplied Builtin.Slice.sliceFields;refine z5o (z5o (z91 hos hds (x:=vl) rfl (z5o (z91 hos hds (x:=vu) rfl (z5o (z91 hos hds (x:=.none) rfl (z52 ?_)))))));refine z5o (slicePart_none ?_);show wpAny _ _ (if((1:Int)==0)=true then _ else _) _ _ s;rw[z6c (by decide)];refine z5o (zei pl (z5o (zei pu (z5o (z52 ?_)))));show wpAny _ _ (match Builtin.Slice.sliceAdjust lo hi 1 (n:Int)with | (lo,hi)=>pure (lo,(1:Int),Builtin.Slice.slicePlaces lo hi 1)) _ _ s;rw[zl6 lo hi n];show wpAny _ _ (pure (((sIx n 0 lo:Nat):Int),(1:Int),Builtin.Slice.slicePlaces ((sIx n 0 lo:Nat):Int) ((sIx n n hi:Nat):Int) 1)) _ _ s;rw[zle];exact z52 h
theorem zra(xs:Array Value)(i k:Nat):((List.range k).filterMap fun(m:Nat)=>xs[((i:Int)+(m:Int)*1).toNat]?).toArray=((xs.toList.drop i).take k).toArray:=by
 have e:(fun(m:Nat)=>xs[((i:Int)+(m:Int)*1).toNat]?)=fun m=>xs[i+m]?:=by
   funext m;have:((i:Int)+(m:Int)*1).toNat=i+m:=by omega
   rw[this]
 rw[e];have:=pick_run xs i k;rw[List.filterMap_map]at this;have e2:((fun x=>xs[x]?)∘fun x=>i+x)=fun m=>xs[i+m]?:=rfl;rw[e2]at this;rw[this]
theorem getItem_tuple_cut{t sl:Addr}{items:Array Value}{vl vu:Value}{lo hi:Option Int}{Q:zVP}(ht:IsTup s.heap t items)(hs:s.heap.IsSliceOf sl vl vu .none)(pl:IsPart vl lo)(pu:IsPart vu hi)
   (hw:¬ (sIx items.size 0 lo=0/\sIx items.size items.size hi=items.size))
   (h:Q (.ref s.heap.objs.size) { s with heap:=s.heap.push { cls:=.type "tuple",data:=.seq ((items.toList.drop (sIx items.size 0 lo)).take (sIx items.size items.size hi-sIx items.size 0 lo)).toArray } })
   (hsz:items.size<=sizeLine):wpAny (model prog w) A (getItem (.ref t) (.ref sl)) Q E s:=by
 have htake:sizeOk (.seq ((items.toList.drop (sIx items.size 0 lo)).take (sIx items.size items.size hi-sIx items.size 0 lo)).toArray):=by show((items.toList.drop (sIx items.size 0 lo)).take (sIx items.size items.size hi-sIx items.size 0 lo)).toArray.size<=sizeLine;rw[z6d,z6m,z6l,Array.length_toList];omega
 have hj:sIx items.size items.size hi<=items.size:=zye _ _ (z5p _) hi;obtain⟨os,hos,hcs,hds⟩:=id hs;have hTs:s.TypeIs (.ref sl) "slice":=⟨os,hos,hcs⟩
 unfold getItem
 try with_reducible refine wpAny_holding ?_
 first | refine z5o (z52 ?_) | skip
 refine z5o (wpAny_sequenceKey ht.typeIs (by decide) ?_);refine z5o (wpAny_callSpecial?_slot (name:=Str.ofString "__getitem__") ht.typeIs z8n
   (wpAny_call_entry z8n ht.typeIs entry_tuple_getitem ?_ (args_tuple_getitem _ _)))
 show wpAny _ _ (Builtin.Tuple.tupleItemsOf (.ref t) >>= _) _ _ s;refine z5o (tupleItemsOf_ ht ?_);refine z5o (qbe hTs ?_);rw[z55 (by decide)];refine z5o (zce hs pl pu ?_);have hno:¬ ((((sIx items.size 0 lo:Nat):Int)==0&&(1:Int)==1&&(sIx items.size items.size hi-sIx items.size 0 lo)==items.size)=true):=by intro q;rw[z6p,z6p]at q;have q1:((sIx items.size 0 lo:Nat):Int)=0:=eq_of_beq q.1.1;have q2:sIx items.size items.size hi-sIx items.size 0 lo=items.size:=eq_of_beq q.2;exact hw ⟨by omega,by omega⟩
 show wpAny _ _ (if(((sIx items.size 0 lo:Nat):Int)==0&&(1:Int)==1&&(sIx items.size items.size hi-sIx items.size 0 lo)==items.size)=true then _ else _) _ _ s;rw[z6c hno,zra]
 first
   |exact z5o (m:=Builtin.Tuple.tupleExact _) (z88 (z52 ⟨_,rfl,z52 h⟩) htake)
   |exact z5o (m:=Builtin.Tuple.tupleExact _) (z88 (z5o (z52 (z52 ⟨_,rfl,z52 h⟩))) htake)
   |exact z5o (z5o (m:=Builtin.Tuple.tupleExact _) (z88 (z52 (z52 ⟨_,rfl,z52 h⟩)) htake))
   |exact z5o (z5o (m:=Builtin.Tuple.tupleExact _) (z88 (z52 ⟨_,rfl,z52 h⟩) htake))
end
end HT
namespace L2
open PySem PySem.Spec PyProof.Rows
abbrev TO:=St->Hp->(Option Int->Hp->Prop)->Prop
def PO(X:Cx)(e:Option Expr)(t:TO):Prop :=
 ∀(pins:zAO) (s:Shared) (σ:St) (H:Hp) (Q:Option Int->Hp->Prop),Inv X pins σ H s->t σ H Q ->
   wpAny (model X.prog X.w) X.A (evalPart e X.env) (fun u s'=>∃o H',Inv X pins σ H' s'/\IsPart u o/\Q o H') X.xe s
def zur:TO:=fun _ H Q=>Q none H
def z2b(t:TE):TO:=fun σ H Q=>t σ H fun x H1=>∃i,x=.int i/\Q (some i) H1
section
variable {X:Cx}{e:Expr}{te:TE}{lo hi:Option Expr}{tl th:TO}{pos p2:Pos}
theorem zvk:PO X none zur:=by intro pins s σ H Q I h;rw[evalPart_none];exact z52 ⟨none,H,I,.none,h⟩
theorem zvj(h:PE X e te):PO X (some e) (z2b te):=by intro pins s σ H Q I hw;rw[evalPart_some];refine thn (h pins s σ H _ I hw) fun u s1 ⟨x,H1,I1,r1,q1⟩=>?_;obtain⟨i,rfl,q⟩:=q1;obtain⟨t,rfl⟩:=r1;exact⟨some i,H1,I1,.int i t,q⟩
def SlR(X:Cx)(r:V->Option Int->Option Int->Hp->VK->Prop):Prop :=
 ∀(pins:zAO) (s:Shared) (σ:St) (H:Hp) (x:V) (v vl vu:Value) (lo hi:Option Int) (sl:Addr) (Q:VK),Inv X pins σ H s->RelV x v->s.heap.IsSliceOf sl vl vu .none->IsPart vl lo->IsPart vu hi->r x lo hi H Q ->
   ∃T id,typeLookup (.type T) "__getitem__"=pure (some (.builtin id))/\s.TypeIs v T/\wpAny (model X.prog X.w) X.A (getItem v (.ref sl)) (EP X pins σ Q) X.xe s
theorem SlR.or{r r':V->Option Int->Option Int->Hp->VK->Prop}(h:SlR X r)(h':SlR X r'):SlR X (fun x lo hi H Q=>r x lo hi H Q\/r' x lo hi H Q):=by
 intro pins s σ H x v vl vu lo hi sl Q I rx hs pl pu q;rcases q with q | q
 · exact h pins s σ H x v vl vu lo hi sl Q I rx hs pl pu q
 · exact h' pins s σ H x v vl vu lo hi sl Q I rx hs pl pu q
def tSl(r:V->Option Int->Option Int->Hp->VK->Prop)(te:TE)(tl th:TO):TE:=fun σ H Q=>te σ H fun x H1=>tl σ H1 fun l H2=>th σ H2 fun u H3=>r x l u H3 Q
theorem zrc{r:V->Option Int->Option Int->Hp->VK->Prop}(hr:SlR X r)(he:PE X e te)(hl:PO X lo tl)(hu:PO X hi th):PE X (.Subscript e (.Slice lo hi none p2) pos) (tSl r te tl th):=by intro pins s σ H Q I h;refine Subscript_ (thn (he pins s σ H _ I h) fun v s1 ⟨x,H1,I1,r1,q1⟩=>?_);refine wpAny_Slice (thn (hl pins s1 σ H1 _ I1 q1) fun vl s2 ⟨l,H2,I2,pl,q2⟩=>thn (hu pins s2 σ H2 _ I2 q2) fun vu s3 ⟨u,H3,I3,pu,q3⟩=>?_);rw[evalPart_none];refine z52 ?_;have I4:Inv X pins σ H3 { s3 with heap:=s3.heap.push { cls:=.type "slice",data:=.fields #[vl,vu,.none] } }:=I3.kept (t':=s3.toks) fun b ob q=>z5t _ q;obtain⟨T,id,hT,ht,hg⟩:=hr pins { s3 with heap:=s3.heap.push { cls:=.type "slice",data:=.fields #[vl,vu,.none] } } σ H3 x v vl vu l u s3.heap.objs.size Q I4 r1 (Heap.IsSliceOf.new ..) pl pu q3;show wpAny (model X.prog X.w) X.A (subscriptTail e (.Slice lo hi none p2) v (.ref s3.heap.objs.size)) (EP X pins σ Q) X.xe { s3 with heap:=s3.heap.push { cls:=.type "slice",data:=.fields #[vl,vu,.none] } };exact tail_any (ops:=[.ref s3.heap.objs.size,v]) ht hT hg (by with_unfolding_all rfl)
def zt5(xs:List V)(lo hi:Option Int):List V:=(xs.drop (HT.sIx xs.length 0 lo)).take (HT.sIx xs.length xs.length hi-HT.sIx xs.length 0 lo)
theorem zd0(xs:List V)(lo hi:Option Int):(zt5 xs lo hi).length<=xs.length:=by unfold zt5;rw[z6m,z6l];omega
def z42(K:zFr):V->Option Int->Option Int->Hp->VK->Prop:=fun x lo hi H Q=>∃a xs,x=.ref a/\SqT K H a xs /\
 ¬ (HT.sIx xs.length 0 lo=0/\HT.sIx xs.length xs.length hi=xs.length)/\∀p,H p=none->Q (.ref p) (upd H p (.tup (zt5 xs lo hi)))
theorem zx9:SlR X (z42 X.K):=by
 intro pins s σ H x v vl vu lo hi sl Q I rx hs pl pu h;obtain⟨a,xs,rfl,hx,hw,q⟩:=h;cases rx;obtain⟨its,r,ht,hz⟩:=I.tuple hx;have hlen:its.toArray.size=xs.length:=by rw[z6d];exact r.length.symm
 refine⟨"tuple",_,z8n.lookup,ht.typeIs,?_⟩;refine HT.getItem_tuple_cut ht hs pl pu (by rw[hlen];exact hw) ?_ (by rw[hlen];exact hz);rw[hlen];refine⟨.ref s.heap.objs.size,_,I.laid (t':=s.toks) (o:=.tup (zt5 xs lo hi)) (fun b ob q=>z5t _ q) (z5p _) ?_,rfl,q _ (I.hok.fresh (z5p _))⟩;exact⟨z6h (zd0 xs lo hi) hz,_,(r.drop (HT.sIx xs.length 0 lo)).take (HT.sIx xs.length xs.length hi-HT.sIx xs.length 0 lo),IsTup.new _ _⟩
def zu8(K:zFr):R2:=fun x y H Q=>∃a b xs ys,x=.ref a/\y=.ref b/\SqT K H a xs/\SqT K H b ys/\xs≠[]/\xs.length+ys.length<=sizeLine /\
 (ys=[]->Q (.ref a) H)/\(ys≠[]->∀p,H p=none->Q (.ref p) (upd H p (.tup (xs++ys))))
theorem Vals.nil_iff{xs:List V}{us:List Value}(r:Vals xs us):us=[]↔xs=[]:=by
 cases r with
 |nil=>simp
 |cons _ _=>simp
theorem op_catT:OpR X (binaryOp .Add) (zu8 X.K):=by intro pins s σ H x y v u Q I rx ry h;obtain⟨a,b,xs,ys,rfl,rfl,ha,hb,hx,hz,q1,q2⟩:=h;cases rx;cases ry;obtain⟨its,r1,p1,_⟩:=I.tuple ha;obtain⟨its2,r2,p2,_⟩:=I.tuple hb;refine HT.cat_tup p1 p2 (fun z=>hx (r1.nil_iff.mp z)) (fun z=>⟨.ref a,H,I,rfl,q1 (r2.nil_iff.mp z)⟩) (fun z=>?_) (by rw[<-r1.length,<-r2.length];exact hz);refine⟨.ref s.heap.objs.size,_,I.laid (t':=s.toks) (o:=.tup (xs++ys)) (fun b ob q=>z5t _ q) (z5p _) ?_,rfl,q2 (fun w=>z (r2.nil_iff.mpr w)) _ (I.hok.fresh (z5p _))⟩;exact⟨by rw[z5n];exact hz,_,r1.append r2,IsTup.new _ _⟩
end
def ixN(n:Nat)(i:Int):Option Nat:=if 0<=i then (if i<n then some i.toNat else none)else if -(n:Int)<=i then some (i+n).toNat else none
def atI{α:Type}(xs:List α)(i:Int):Option α:=(ixN xs.length i).bind fun j=>xs[j]?
theorem zv7{n:Nat}{i:Int}{j:Nat}(h:ixN n i=some j):seqIndex? i n=some j/\j<n/\-(n:Int)<=i/\i<n:=by
 unfold ixN at h;by_cases h0:0<=i
 · rw[z55 h0]at h;by_cases h1:i<n
   · rw[z55 h1]at h;have e:i.toNat=j:=z62 h;exact⟨by rw[seqIndex_of h0 h1,e],by omega,by omega,h1⟩
   · rw[z6c h1]at h;cases h
 · rw[z6c h0]at h;by_cases h1:-(n:Int)<=i
   · rw[z55 h1]at h;have e:(i+n).toNat=j:=z62 h;exact⟨by rw[seqIndex_neg (by omega) h1,e],by omega,h1,by omega⟩
   · rw[z6c h1]at h;cases h
theorem zi8{α:Type}{xs:List α}{i:Int}{v:α}(h:atI xs i=some v):∃j,seqIndex? i xs.length=some j/\xs[j]? = some v/\j<xs.length/\-(xs.length:Int)<=i/\i<xs.length:=by
 unfold atI at h;cases e:ixN xs.length i with
 |none=>rw[e]at h;cases h
 | some j=>
   rw[e]at h;obtain⟨h1,h2,h3,h4⟩:=zv7 e;exact⟨j,h1,h,h2,h3,h4⟩
theorem zf5{α:Type}{xs:List α}{j:Nat}{v:α}(h:xs[j]? = some v):atI xs (j:Int)=some v:=by
 have hj:j<xs.length:=(z5s.mp h).1;have e:ixN xs.length (j:Int)=some j:=by unfold ixN;rw[z55 (by omega),z55 (by omega)];simp
 unfold atI;rw[e];exact h
def zqb(b:Expr):Prop:=∀o i,subscripted b false o i=operate [o,i] (getItem o i)
def IxR(X:Cx)(r:R2):Prop :=
 ∀(value slice:Expr) (pins:zAO) (s:Shared) (σ:St) (H:Hp) (x y:V) (v u:Value) (Q:VK),Inv X pins σ H s->RelV x v->RelV y u->r x y H Q ->
   subscripted slice false v u=operate [v,u] (getItem v u)->wpAny (model X.prog X.w) X.A (subscriptTail value slice v u) (EP X pins σ Q) X.xe s
def MtR(X:Cx)(id:String)(r:V->List V->Hp->VK->Prop):Prop :=
 ∀(pins:zAO) (s:Shared) (σ:St) (H:Hp) (x:V) (xs:List V) (v:Value) (us:List Value) (Q:VK),Inv X pins σ H s->RelV x v->Vals xs us->r x xs H Q ->
   wpAny (model X.prog X.w) X.A (call (.builtin id) (v::us)) (EP X pins σ Q) X.xe s
section
variable {X:Cx}{a b:Expr}{ta tb:TE}{pos:Pos}
theorem IxR.or{r r':R2}(h:IxR X r)(h':IxR X r'):IxR X (fun x y H Q=>r x y H Q\/r' x y H Q):=by
 intro value slice pins s σ H x y v u Q I rx ry q hs;rcases q with q | q
 · exact h value slice pins s σ H x y v u Q I rx ry q hs
 · exact h' value slice pins s σ H x y v u Q I rx ry q hs
theorem z2v{r:R2}(hr:IxR X r)(ha:PE X a ta)(hb:PE X b tb)(hs:zqb b):PE X (.Subscript a b pos) (tOp r ta tb):=by intro pins s σ H Q I h;exact Subscript_ (z3v ha hb I h fun v u s2 x y H2 I2 rx ry q=>hr a b pins s2 σ H2 x y v u Q I2 rx ry q (hs _ _))
def z36(K:zFr):R2:=fun x y H Q=>∃p xs i v,x=.ref p/\y=.int i/\SqL K H p xs/\atI xs i=some v/\Q v H
def z34(K:zFr):R2:=fun x y H Q=>∃p xs i v,x=.ref p/\y=.int i/\SqT K H p xs/\atI xs i=some v/\Q v H
def z35:R2:=fun x y H Q=>∃z i c,x=.str z/\y=.int i/\z.length<=sizeLine/\atI z.cps.toList i=some c/\Q (.str ⟨#[c]⟩) H
theorem ix_list:IxR X (z36 X.K):=by
 intro value slice pins s σ H x y v u Q I rx ry h hs;obtain⟨p,xs,i,z,rfl,rfl,hq,he,q⟩:=h;cases rx;obtain⟨t,rfl⟩:=ry;obtain⟨its,r,pl,hz⟩:=I.list hq;obtain⟨j,h1,h2,h3,h4,h5⟩:=zi8 he;obtain⟨w,ew,rw'⟩:=r.get h2;have hl:=r.length;have hn:=zgy;have fin:EP X pins σ Q w s:=⟨z,H,I,rw',q⟩
 by_cases h0:0<=i
 · have hj:i.toNat=j:=by rw[seqIndex_of h0 h5]at h1;exact z62 h1
   exact item_listR pl.isList h0 (by omega) (by rw[hj];simpa using ew) fin hs
 · have hj:(i+(its.toArray.size:Int)).toNat=j:=by rw[seqIndex_neg (by omega) h4]at h1;rw[z6d,<-hl];exact z62 h1
   exact subscriptTail_builtinR (x:=w) pl.isList.typeIs slot_list_getitem.lookup
     (wpAny_getItem_list_neg (Q:=fun r s'=>r=w/\EP X pins σ Q r s') pl.isList (by omega) (by rw[z6d]<;>omega) (by omega) (by rw[hj];simpa using ew) ⟨rfl,fin⟩) hs
theorem ix_tup:IxR X (z34 X.K):=by
 intro value slice pins s σ H x y v u Q I rx ry h hs;obtain⟨p,xs,i,z,rfl,rfl,hq,he,q⟩:=h;cases rx;obtain⟨t,rfl⟩:=ry;obtain⟨its,r,pl,hz⟩:=I.tuple hq;obtain⟨j,h1,h2,h3,h4,h5⟩:=zi8 he;obtain⟨w,ew,rw'⟩:=r.get h2;have hl:=r.length;have hn:=zgy;have fin:EP X pins σ Q w s:=⟨z,H,I,rw',q⟩
 exact subscriptTail_builtinR (x:=w) pl.typeIs slot_tuple_getitem.lookup
   (getItem_tuple (j:=j) (Q:=fun r s'=>r=w/\EP X pins σ Q r s') pl (by omega) (by omega) (by rw[z6d,<-hl];exact h1) (by simpa using ew) ⟨rfl,fin⟩) hs
theorem zzs:IxR X z35:=by
 intro value slice pins s σ H x y v u Q I rx ry h hs;obtain⟨z,i,c,rfl,rfl,hz,he,q⟩:=h;obtain⟨t,rfl⟩:=rx;obtain⟨t',rfl⟩:=ry;obtain⟨j,h1,h2,h3,h4,h5⟩:=zi8 he;have hl:z.cps.toList.length=z.length:=by simp[Str.length]
 rw[hl]at h1 h4 h5;have hn:=zgy;exact tail_any (typeIs_str s z t) slot_str_getitem.lookup (getItem_str (c:=c) (by
   have e1:decide (i < -(2^63:Int))=false:=z54 (by omega);have e2:decide (i ≥ 2^63)=false:=z54 (by omega);rw[e1,e2,Bool.or_false]) (by rw[h1];simpa using h2) ⟨.str ⟨#[c]⟩,H,I.tok _,⟨_,rfl⟩,q⟩) hs
def rIx(K:zFr):R2:=fun x y H Q=>z36 K x y H Q\/z34 K x y H Q\/z35 x y H Q
theorem zzt:IxR X (rIx X.K):=ix_list.or (ix_tup.or zzs)
theorem zgi(lo hi:Option Int)(n:Nat):(sliceBounds lo hi none n).1=((HT.sIx n 0 lo:Nat):Int)/\(sliceBounds lo hi none n).2.1=((HT.sIx n n hi:Nat):Int)/\(sliceBounds lo hi none n).2.2=1:=by
 refine⟨?_,?_,rfl⟩
 · cases lo with
   |none=>simp[sliceBounds,HT.sIx]
   | some i=>
     simp only[sliceBounds,HT.sIx,Option.getD_none,show(1:Int)>0 by decide,z7l];by_cases h:i<0
     · simp only[h,z7l]<;>omega
     · simp only[h,z61]<;>omega
 · cases hi with
   |none=>simp[sliceBounds,HT.sIx]
   | some i=>
     simp only[sliceBounds,HT.sIx,Option.getD_none,show(1:Int)>0 by decide,z7l];by_cases h:i<0
     · simp only[h,z7l]<;>omega
     · simp only[h,z61]<;>omega
theorem ze7(its:List Value)(lo hi:Option Int):slicePick its.toArray lo hi none=((its.drop (HT.sIx its.length 0 lo)).take (HT.sIx its.length its.length hi-HT.sIx its.length 0 lo)).toArray:=by obtain⟨h1,h2,h3⟩:=zgi lo hi its.toArray.size;unfold slicePick;rw[h1,h2,h3];simp only[sliceRange_one,pick_run,z6d]<;>rfl
def z43(K:zFr):V->Option Int->Option Int->Hp->VK->Prop:=fun x lo hi H Q=>∃a xs,x=.ref a/\SqL K H a xs/\∀p,H p=none->Q (.ref p) (upd H p (.lst (zt5 xs lo hi)))
theorem sl_list:SlR X (z43 X.K):=by intro pins s σ H x v vl vu lo hi sl Q I rx hs pl pu h;obtain⟨a,xs,rfl,hx,q⟩:=h;cases rx;obtain⟨its,r,ht,hz⟩:=I.list hx;have hlen:=r.length;refine⟨"list",_,slot_list_getitem.lookup,ht.isList.typeIs,?_⟩;refine wpAny_getItem_list_slice ht.isList hs pl pu .none (by simp) ?_ (by rw[z6d]<;>omega);rw[ze7,<-hlen];refine⟨.ref s.heap.objs.size,_,I.laid (t':=s.toks) (o:=.lst (zt5 xs lo hi)) (fun b ob q=>z5t _ q) (z5p _) ?_,rfl,q _ (I.hok.fresh (z5p _))⟩;exact⟨z6h (zd0 xs lo hi) hz,_,0,(r.drop (HT.sIx xs.length 0 lo)).take (HT.sIx xs.length xs.length hi-HT.sIx xs.length 0 lo),z6o _ rfl⟩
def zbt:V->Bool
 | .non=>true
 | .bl _=>true
 | .int _=>true
 | .str _=>true
 |_=>false
def eqV:V->V->Bool
 | .non,.non=>true
 | .bl a,.bl b=>a==b
 | .bl a,.int b=>(if a then 1 else 0)==b
 | .int a,.bl b=>a==(if b then 1 else 0)
 | .int a,.int b=>a==b
 | .str a,.str b=>a==b
 |_,_=>false
theorem zpg{A:Around}{s:Shared}{y x:V}{u v:Value}(ry:RelV y u)(rx:RelV x v)(fy:zbt y=true)(fx:zbt x=true):SeqAt.EqAt A s u v (eqV y x):=by
 cases y with
 | non=>
   cases ry;cases x with
   |non=>cases rx;exact SeqAt.EqAt.same _
   |bl b=>cases rx;exact SeqAt.EqAt.none_bool b
   |int b=>obtain⟨t,rfl⟩:=rx;exact SeqAt.EqAt.none_int b t
   |str b=>obtain⟨t,rfl⟩:=rx;exact SeqAt.EqAt.none_str b t
   |_=>exact absurd (show false=true from fx) z7a
 | bl a=>
   cases ry;cases x with
   |non=>cases rx;exact SeqAt.EqAt.bool_none a
   |bl b=>cases rx;exact SeqAt.EqAt.bool_bool a b
   |int b=>obtain⟨t,rfl⟩:=rx;exact SeqAt.EqAt.bool_int a b t
   |str b=>obtain⟨t,rfl⟩:=rx;exact SeqAt.EqAt.bool_str a b t
   |_=>exact absurd (show false=true from fx) z7a
 | int a=>
   obtain⟨t',rfl⟩:=ry;cases x with
   |non=>cases rx;exact SeqAt.EqAt.int_none a t'
   |bl b=>cases rx;exact SeqAt.EqAt.int_bool a t' b
   |int b=>obtain⟨t,rfl⟩:=rx;exact SeqAt.EqAt.int_int a t' b t
   |str b=>obtain⟨t,rfl⟩:=rx;exact SeqAt.EqAt.int_str a t' b t
   |_=>exact absurd (show false=true from fx) z7a
 | str a=>
   obtain⟨t',rfl⟩:=ry;cases x with
   |non=>cases rx;exact SeqAt.EqAt.str_none a t'
   |bl b=>cases rx;exact SeqAt.EqAt.str_bool a t' b
   |int b=>obtain⟨t,rfl⟩:=rx;exact SeqAt.EqAt.str_int a t' b t
   |str b=>obtain⟨t,rfl⟩:=rx;exact SeqAt.EqAt.str_str a t' b t
   |_=>exact absurd (show false=true from fx) z7a
 |_=>exact absurd (show false=true from fy) z7a
def eqU(x:V)(u:Value):Bool:=match u with
 | .none=>eqV .non x
 | .bool b=>eqV (.bl b) x
 | .int i _=>eqV (.int i) x
 | .str z _=>eqV (.str z) x
 |_=>false
theorem zt0{x y:V}{u:Value}(r:RelV y u)(f:zbt y=true):eqU x u=eqV y x:=by
 cases y with
 |non=>cases r;rfl
 |bl b=>cases r;rfl
 |int i=>obtain⟨t,rfl⟩:=r;rfl
 |str z=>obtain⟨t,rfl⟩:=r;rfl
 |_=>exact absurd (show false=true from f) z7a
theorem zi9{x:V}:∀{xs:List V}{us:List Value},Vals xs us->xs.all zbt=true->us.any (eqU x)=xs.any fun y=>eqV y x
 |_,_,.nil,_=>rfl
 | y::xs,u::us,.cons r t,f=>by rw[List.all_cons,z6p]at f;rw[List.any_cons,List.any_cons,zt0 r f.1,zi9 t f.2]
theorem zfi{A:Around}{s:Shared}{x:V}{v:Value}(rx:RelV x v)(fx:zbt x=true):∀{xs:List V}{us:List Value},Vals xs us->xs.all zbt=true->∀u∈us,SeqAt.EqAt A s u v (eqU x u)
 |_,_,.nil,_=>fun u hu=>by cases hu
 | y::xs,u::us,.cons r t,f=>fun u' hu=>by
   rw[List.all_cons,z6p]at f;rcases z5y.mp hu with rfl | hu
   · rw[zt0 r f.1];exact zpg r rx f.1 fx
   · exact zfi rx fx t f.2 u' hu
def inV(x:V)(xs:List V):Bool:=xs.any fun y=>eqV y x
def rIn(K:zFr)(neg:Bool):R2:=fun x y H Q=>∃p xs,y=.ref p/\(SqL K H p xs\/SqT K H p xs)/\zbt x=true/\xs.all zbt=true/\Q (.bl (if neg then !inV x xs else inV x xs)) H
theorem zgr:OpR X (compareOp .NotIn) (rIn X.K true):=by
 intro pins s σ H x y v u Q I rx ry h;obtain⟨p,xs,rfl,hq,fx,fs,q⟩:=h;cases ry;rcases hq with hq | hq
 · obtain⟨its,r,pl,hz⟩:=I.list hq;refine SeqAt.notIn_listAt (eqU x) pl.isList (fun w hw=>zfi rx fx r fs w (by simpa using hw)) ⟨.bl _,H,I,rfl,?_⟩;rw[show its.toArray.any (eqU x)=its.any (eqU x) by simp,zi9 r fs];exact q
 · obtain⟨its,r,pl,hz⟩:=I.tuple hq;refine SeqAt.notIn_tupleAt (eqU x) pl (fun w hw=>zfi rx fx r fs w (by simpa using hw)) ⟨.bl _,H,I,rfl,?_⟩;rw[show its.toArray.any (eqU x)=its.any (eqU x) by simp,zi9 r fs];exact q
theorem call_len_seq:CallR X (.builtin "len") (fun xs H Q=>∃p ys,xs=[.ref p]/\(SqL X.K H p ys\/SqT X.K H p ys)/\Q (.int ys.length) H):=by
 intro pins s σ H xs us Q I r h;obtain⟨p,ys,rfl,hq,q⟩:=h;obtain⟨u,rfl,rx⟩:=zqi r;cases rx;have hn:=zgy;rcases hq with hq | hq
 · obtain⟨its,r',pl,hz⟩:=I.list hq;have hlen:=r'.length;exact Calls.call_len_list pl.isList (by simp only[z6d]<;>omega) ⟨.int ys.length,H,I.tok _,⟨s.toks+1,by rw[z6d,hlen]⟩,q⟩
 · obtain⟨its,r',pl,hz⟩:=I.tuple hq;have hlen:=r'.length;exact len_tuple pl (by simp only[z6d]<;>omega) ⟨.int ys.length,H,I.tok _,⟨s.toks+1,by rw[z6d,hlen]⟩,q⟩
theorem zhj:CallR X (.builtin "len") (fun xs H Q=>∃z,xs=[.str z]/\z.length<=sizeLine/\Q (.int z.length) H):=by intro pins s σ H xs us Q I r h;obtain⟨z,rfl,hz,q⟩:=h;obtain⟨u,rfl,t,rfl⟩:=zqi r;have hn:=zgy;exact len_str (by omega) ⟨.int z.length,H,I.tok _,⟨_,rfl⟩,q⟩
theorem CallR.or{f:Value}{r r':List V->Hp->VK->Prop}(h:CallR X f r)(h':CallR X f r'):CallR X f (fun xs H Q=>r xs H Q\/r' xs H Q):=by
 intro pins s σ H xs us Q I rs q;rcases q with q | q
 · exact h pins s σ H xs us Q I rs q
 · exact h' pins s σ H xs us Q I rs q
def tyV(K:zFr)(T:String)(x:V)(H:Hp):Prop:=match x with
 | .str _=>T="str"
 | .int _=>T="int"
 | .ref p=>(T="list"/\∃xs,SqL K H p xs)\/(T="tuple"/\∃o,K.lookup p=some o/\o.cls=.type "tuple"/\o.dict=none) \/
     (T="dict"/\((∃kvs,H p=some (.dK kvs))\/∃kvs,H p=some (.dT kvs)))\/(T="set"/\∃S n,H p=some (.set S n))
 |_=>False
theorem zxq{pins:zAO}{σ:St}{H:Hp}{s:Shared}{T:String}{x:V}{v:Value}(I:Inv X pins σ H s)(r:RelV x v)(ty:tyV X.K T x H) :
   s.TypeIs v T/\∀a,v=.ref a->∃ob,s.heap.get? a=some ob/\ob.dict=none:=by
 cases x with
 | str z=>
   obtain⟨t,rfl⟩:=r;cases(show T="str" from ty);exact⟨typeIs_str s z t,fun _ e=>nomatch e⟩
 | int i=>
   obtain⟨t,rfl⟩:=r;cases(show T="int" from ty);exact⟨typeIs_int s i t,fun _ e=>nomatch e⟩
 | ref p=>
   cases r;rcases ty with⟨rfl,xs,hq⟩ | ⟨rfl,o,hk,hc,hd⟩ | ⟨rfl,hk⟩ | ⟨rfl,S,n,hk⟩
   · obtain⟨its,_,pl,_⟩:=I.list hq;refine⟨pl.isList.typeIs,fun a e=>?_⟩;cases e;obtain⟨o,n,e,c,hd,_⟩:=pl;exact⟨o,e,hd⟩
   · refine⟨⟨o,I.kIn p o hk,hc⟩,fun a e=>?_⟩;cases e;exact⟨o,I.kIn _ o hk,hd⟩
   · have z:∃o,s.heap.get? p=some o/\o.ExactDict:=by
       rcases hk with⟨kvs,hk⟩ | ⟨kvs,hk⟩
       · obtain⟨_,_,_,_,o,_,_,e,ex,_⟩:=I.hok p _ hk;exact⟨o,e,ex⟩
       · obtain⟨_,_,_,_,o,_,_,e,ex,_⟩:=I.hok p _ hk;exact⟨o,e,ex⟩
     obtain⟨o,e,ex⟩:=z;refine⟨⟨o,e,ex.1⟩,fun a e2=>?_⟩;cases e2;exact⟨o,e,ex.2.1⟩
   · obtain⟨o,_,_,_,e,ex,_⟩:=I.hok p _ hk;refine⟨⟨o,e,ex.1⟩,fun a e2=>?_⟩;cases e2;exact⟨o,e,ex.2.1⟩
 |_=>exact False.elim ty
def tBM(K:zFr)(T:String)(r:V->List V->Hp->VK->Prop)(to:TE)(t:TA):TE:=fun σ H Q=>to σ H fun x H1=>tyV K T x H1/\t σ H1 fun xs H2=>r x xs H2 Q
variable {o e:Expr}{es:List Expr}{to:TE}{t:TA}{name:Str}{apos cpos:Pos}{T id:String}{r:V->List V->Hp->VK->Prop}
theorem z2w(pa:PlainAttrs T)(slot:Slot T name id)(hty:typeOf (.builtin id)=pure (.type "method_descriptor"))(hm:MtR X id r)(ho:PE X o to)(ha:PA X (e::es) t)
   (hbase:attributeBase o name X.env (eval o X.env)=eval o X.env:=by rfl)
   (hfew:((backTo cpos (starEach (e::es) X.env)).all (fun x=>!x.1)&&(backToKw cpos (keywordEach [] X.env)).all (fun x=>x.1.isSome)
     && decide ((e::es).length+([]:List Keyword).length+(if([]:List Keyword).isEmpty then 0 else 1)<30))=true:=by rfl)
   (hline:(apos.endLine==cpos.line)=true:=by rfl) (hs:starEach (e::es) X.env=(false,eval e X.env)::starEach es X.env:=by rfl) (hplain:(backTo cpos (starEach es X.env)).any (·.1)=false:=by rfl) :
   PE X (.Call (.Attribute o name apos) (e::es) [] cpos) (tBM X.K T r to t):=by
 intro pins s σ H Q I h;refine wpAny_Call_method_late hbase hfew hline rfl (thn (ho pins s σ H _ I h) fun v s1 ⟨x,H1,I1,r1,ty,q1⟩=>?_);obtain⟨h1,h2⟩:=zxq I1 r1 ty;refine⟨T,id,pa,slot,hty,h1,h2,?_⟩;have hA:=ha cpos pins s1 σ H1 _ I1 q1;rw[hs]at hA ⊢;refine Calls.callWith_builtin (by show(false||(backTo cpos (starEach es X.env)).any (·.1))=false;rw[hplain]<;>rfl) (Calls.evalArgs_plain ?_);exact thn hA fun us s2 ⟨vs,H2,I2,r2,q2⟩=>hm pins s2 σ H2 x vs v us Q I2 r1 r2 q2
/- xs.append(e),list.index on a module's tuple .. are MtR facts of 06m -/
end
def MtM(X:Cx)(id:String)(r:V->List V->Hp->VK->Prop):Prop :=
 ∀(pins:zAO) (s:Shared) (σ:St) (H:Hp) (x:V) (xs:List V) (v:Value) (us:List Value) (Q:VK),Inv X pins σ H s->RelV x v->Vals xs us->r x xs H Q ->
   wpAny (model X.prog X.w) X.A (call (.builtin id) (v::us)) (EP X pins σ Q) X.xe s
theorem Vals.one:∀{x:V}{us:List Value},Vals [x] us->∃u,us=[u]/\RelV x u
 |_,_,.cons r .nil=>⟨_,rfl,r⟩
theorem Vals.dropLast{xs:List V}{us:List Value}(h:Vals xs us):Vals xs.dropLast us.dropLast:=by
 induction h with
 |nil=>exact .nil
 | cons r t ih=>
   cases t with
   |nil=>exact .nil
   |cons q t'=>exact .cons r ih
section
variable {X:Cx}{pins:zAO}{σ:St}{H:Hp}{s:Shared}{l b:Addr}{xs ys zs:List V}
theorem Inv.lset{its its':List Value}{n:Nat}{f:Array Value->Array Value}{t':Nat}(I:Inv X pins σ H s)(hH:H l=some (.lst xs))
   (e:s.heap.get? l=some { cls:=.type "list",data:=.seq its.toArray n }) (hf:f its.toArray=its'.toArray) (hv:Vals ys its') (hz:ys.length<=sizeLine) :
   Inv X pins σ (upd H l (.lst ys)) { s with heap:=s.heap.update l (Obj.mapSeq f),toks:=t' }:=by
 have q:=PySem.IsL.update e f;rw[hf]at q;refine I.write (x:=l) (e:=l) (by rw[hH];exact trivial) (.inl rfl) (fun b' u hb hu=>(z77 s.heap (Obj.mapSeq f) (z7s hb)).trans hu) ⟨_,q⟩ ?_;exact⟨hz,its',_,hv,q⟩
theorem Inv.lnew{its:List Value}{t':Nat}(I:Inv X pins σ H s)(hv:Vals ys its)(hz:ys.length<=sizeLine) :
   Inv X pins σ (upd H s.heap.objs.size (.lst ys)) { s with heap:=s.heap.push { cls:=.type "list",data:=.seq its.toArray },toks:=t' } :=
 I.laid (fun _ _ q=>z5t _ q) (z5p _) ⟨hz,its,0,hv,z6o _ rfl⟩
theorem Inv.fresh(I:Inv X pins σ H s):H s.heap.objs.size=none:=I.hok.fresh (z5p _)
theorem Inv.lstM(I:Inv X pins σ H s)(hH:H l=some (.lst xs)):xs.length<=sizeLine/\∃(its:List Value) (n:Nat),Vals xs its/\xs.length=its.length/\s.heap.get? l=some { cls:=.type "list",data:=.seq its.toArray n }:=by obtain⟨z,its,n,r,e⟩:=I.hok l _ hH;exact⟨z,its,n,r,r.length,e⟩
end
section
variable {X:Cx}
def zva:V->List V->Hp->VK->Prop:=fun x vs H Q=>∃l xs y,x=.ref l/\vs=[y]/\H l=some (.lst xs)/\xs.length<sizeLine/\Q .non (upd H l (.lst (xs++[y])))
theorem zn7:MtM X "list.append" zva:=by intro pins s σ H x vs v us Q I rx rv h;obtain⟨l,xs,y,rfl,rfl,hH,hz,q⟩:=h;cases rx;obtain⟨u,rfl,ru⟩:=rv.one;obtain⟨z,its,n,r,hl,e⟩:=I.lstM hH;refine call_meets F.slot_list_append ⟨_,e,rfl⟩ F.entry_list_append (F.args_list_append_2 _ _) (PySem.list_append l its.toArray n u (by rw[z6d];omega)) ⟨e,?_⟩;refine⟨.non,_,I.lset (its':=its++[u]) hH e (by simp) (r.append (.cons ru .nil)) ?_,rfl,q⟩;rw[z5n,List.length_singleton];omega
end
end L2
namespace Att
open PySem PySem.W PySem.Calls PyProof.Rows
theorem zdq{P:Params}{h:Heap}:∀(ns:List Int) (vs:List Value),WellAll P h vs (ns.map WData.int)->IntsAre vs ns:=by
 intro ns
 induction ns with
 | nil=>
   intro vs w;rw[qbf]at w;cases w;exact .nil
 | cons n ns ih=>
   intro vs w;rw[z5x]at w;cases w with
   | cons a b=>
     cases a;exact .cons _ _ (ih _ b)
theorem zm4{l:OpenLaw}{n:Nat}(hn:l.most=some n){P:Params}{h:Heap}{args:List WData}{vals:List Value}
   (hpre:l.row.toRowW.claim.pre args=true) (hwl:WellAll P h vals args) :
   ∃a vs ns,vals=[Value.ref a]/\args=[WData.list (ns.map WData.int)]/\h.get? a=some { cls:=.type "list",data:=.seq vs.toArray }/\IntsAre vs ns/\ns.length<=n:=by
 have hsh:WShape.hasAll [] args [.list .int]=true:=(pre_splitW hpre).1;have hc:l.pre.holds [] { args:=args }=true:=(pre_splitW hpre).2;obtain⟨d,r,rfl,h1,h2⟩:=hasAllW_cons hsh;obtain rfl:=hasAllW_nil h2;obtain⟨xs,rfl,h3⟩:=hasW_list h1;obtain⟨ns,rfl⟩:=items_int h3;have hlen:ns.length<=n:=by
   unfold OpenLaw.pre at hc;have h4:(WTm.not (.lt (.lit (.int (n:Int))) (.len (.arg 0)))).holds [] { args:=[.list (ns.map .int)] }=true:=by have h4:=(holds_andW hc).1;rw[hn]at h4;exact h4
   have h5:=condW_of h4 (w_not (w_lt w_lit (w_len_list (w_arg rfl))));rw[z6s]at h5;refine Nat.le_of_not_lt fun q=>?_;have q':(n:Int)<((ns.length:Nat):Int):=by omega
   first
     | (rw[z6b q']at h5;exact absurd h5 (by decide))
     | (simp at h5;omega)
 cases hwl with
 | cons w1 w2=>
   cases w2;cases w1 with
   |list ho hall=>exact⟨_,_,ns,rfl,rfl,ho,zdq ns _ hall,hlen⟩
theorem znp(l:OpenLaw)(args:List WData):l.row.toRowW.claim.post args (.bool true) args=true :=
 postW_of (r:=l.row.toRowW) (X:=(true==true))
   (show WShape.has [] (.bool true) .bool=true by first | rfl | decide | simp[WShape.has,WShape.arms,WShape.armsAll])
   (show(WTm.eq .res (.lit (.bool true))).value [] { args:=args,res:=some (.bool true),after:=args }=some (.bool (true==true))from w_eq_bool (w_res rfl) w_lit) rfl
theorem attach_call{l:OpenLaw}{n:Nat}{q:Program}{loose:List Str}{XP:(zMg)->Heap->Prop}{YP:World->Heap->Prop}{d:DefRec}
   (hn:l.most=some n) (hdf:d.params.defaults=[])
   (call:∀(w:World) (s₀ s₁:Shared) (mg mb:zMg) (fa:Addr) (o:Obj) (pm cd doc:Value) (a:Addr) (vs:List Value) (ns:List Int),
     Ground q loose [] XP w s₀ mg mb s₁.heap->YP w s₁.heap ->
     s₁.heap.get? fa=some o->o.data=.func (docDef d.name d.params d.body d.scope pm cd doc)->s₁.heap.CodeRec cd d.name->mg d.name=some (.ref fa) ->
     s₁.heap.get? a=some { cls:=.type "list",data:=.seq vs.toArray }->IntsAre vs ns->ns.length<=n->s₁.gens=#[] ->
     codeAny (model l.prog w) callerA (.call (.ref fa) ⟨[.ref a],[]⟩) (fun r s'=>r=.ok (.ret (.bool true))/\OldK s₁.heap s'.heap/\s'.os=s₁.os/\AllBare s'.gens) s₁) :
   WalkO q loose XP YP l.row.toRowW d [] (fun f vs=>PySem.call f vs):=by
 intro w s₀ s₁ mg mb G Y fa o pm cd doc dV kV ho hd hcd hD hmg hg args vals as hpre hlay hrd hwl hlo;obtain rfl:dV=.none:=Dflts.none hD hdf;obtain rfl:kV=.none:=Dflts.noKw hD;obtain⟨a,vs,ns,rfl,rfl,hobj,hints,hlen⟩:=zm4 hn hpre hwl;refine enter_call (z95 (call w s₀ s₁ mg mb fa o pm cd doc a vs ns G Y ho (fd_plain hd) hcd hmg hobj hints hlen hg) fun r s' hq=>?_);obtain⟨rfl,h2,h3,h4⟩:=hq;exact⟨.inl ⟨.bool true,.bool true,[],rfl,fun _=>rfl,.bool true,znp l _,fun _=>⟨List.Pairwise.nil,fun _ hm=>(nomatch hm)⟩⟩,h2,h3,h4⟩
section
variable {prog:Program}{w:World}{A:Around}{E:zVP}{s:Shared}{K:Frag}
def z4b(h:Heap)(L d:Addr):zAO:=(List.range h.objs.size).filterMap fun a=>if a=L\/a=d then none else (h.get? a).map fun o=>(a,o)
end
end Att
namespace L2
open PySem PySem.Spec PyProof.Rows
theorem zgf:∀{vs:List Value}{ns:List Int},IntsAre vs ns->Vals (ns.map V.int) vs
 |_,_,.nil=>.nil
 |_,_,.cons n t h=>.cons ⟨t,rfl⟩ (zgf h)
abbrev KOf{K:zFr}{h:Heap}(_:K.In h):zFr:=K
end L2
/- THE LAST THEOREM (shape;LID,My.* are yours):
  My.Adr: a structure of the addresses that your layer names (classes,functions);My.Txt K t: a structure (Prop) of the equations over K;
  My.txt_mk:{K}{implicit addresses ..} (e1:nsIn K mainGlobals "law"=some (some (.ref f))) (e2:K.lookup f=some ⟨oc,od,.func (fnOf "law" "law" params body scope dV kV doc pm an cdv ct),sl⟩) (e3:codeIn K cdv "law"=true) ..:∃t,My.Txt K t
(the tactic k_is has no namespace: write k_is) -/
namespace L2
open PySem PySem.Spec PyProof.Rows
def zfm(s:Stmt)(j:Nat):Stmt:=match s with
 | .ClassDef _ _ _ body _ _ _ _ _ _ _=>body.getD j (.Pass ⟨0,0,0,0⟩)
 |_=>.Pass ⟨0,0,0,0⟩
def za9(s:Stmt):Arguments:=match s with
 | .FunctionDef _ a _ _ _ _ _ _ _ _=>a
 |_=>{ posonlyargs:=[],args:=[],vararg:=none,kwonlyargs:=[],kw_defaults:=[],kwarg:=none,defaults:=[] }
def j5(s:Stmt):List Stmt:=match s with
 | .FunctionDef _ _ b _ _ _ _ _ _ _=>b
 |_=>[]
def zh(s:Stmt):Scope:=match s with
 | .FunctionDef _ _ _ _ _ _ sc _ _ _=>sc
 |_=>{ kind:=.function,names:=[],isGenerator:=false,isCoroutine:=false }
abbrev CX0:CXT:=fun _ _ _ _ _ _=>False
abbrev E0:XK:=fun _ _ _=>False
theorem zlf{X:Cx}:zd4 CX0 X E0:=fun _ _ _ _ _ _ _ h=>h.elim
theorem z1u{A B:Prop}(h:B):if false=true then A else B:=by rw[z6c z7a];exact h
theorem z1t{A B:Prop}(h:A):if true=true then A else B:=by rw[z55 rfl];exact h
section
variable {κ:Type} [DecidableEq κ]
def zl7(kvs:List (κ×V))(k:κ):Option V:=(kvs.find? fun kv=>decide (kv.1=k)).map (·.2)
def zif(kvs:List (κ×V))(k:κ)(v:V):List (κ×V) :=
 if(kvs.any fun kv=>decide (kv.1=k))=true then kvs.map (fun kv=>if kv.1=k then (kv.1,v)else kv)else kvs++[(k,v)]
theorem zcm{p:κ×V}{r:List (κ×V)}{k:κ}(e:p.1=k):zl7 (p::r) k=some p.2:=by simp[zl7,List.find?_cons,e]
theorem zcn{p:κ×V}{r:List (κ×V)}{k:κ}(e:¬ p.1=k):zl7 (p::r) k=zl7 r k:=by simp[zl7,List.find?_cons,e]
theorem zjf(k:κ):∀kvs:List (κ×V),(kvs.any fun kv=>decide (kv.1=k))=(zl7 kvs k).isSome
 | []=>rfl
 | p::r=>by
   rw[List.any_cons];by_cases e:p.1=k
   · simp only[zcm e,z6b e,Bool.true_or,Option.isSome_some]
   · rw[zcn e,z54 e,Bool.false_or];exact zjf k r
theorem zdh(kvs:List (κ×V))(k:κ)(v:V):(zif kvs k v).length<=kvs.length+1:=by
 unfold zif;split
 · rw[z6s];omega
 · rw[z5n,List.length_cons,List.length_nil];omega
theorem RelO.isSome_eq{o:Option V}{u:Option Value}(r:RelO o u):o.isSome=u.isSome:=by
 cases o with
 | none=>cases u with
   |none=>rfl
   |some _=>exact(show False from r).elim
 | some _=>cases u with
   |none=>exact(show False from r).elim
   |some _=>rfl
theorem KV.val{kvs:List (κ×V)}{vs:List (κ×Value)}(r:KV kvs vs)(k:κ):RelO (zl7 kvs k) (valueAt vs k):=by
 unfold KV at r
 induction r with
 |nil=>exact True.intro
 | @cons p q ps qs h t ih=>
   obtain⟨h1,h2⟩:=h;by_cases e:p.1=k
   · have e':q.1=k:=h1.symm.trans e;have b:valueAt (q::qs) k=some q.2:=by simp[valueAt,List.find?_cons,e']
     rw[zcm e,b];exact h2
   · have e':¬ q.1=k:=fun z=>e (h1.trans z);have b:valueAt (q::qs) k=valueAt qs k:=by simp[valueAt,List.find?_cons,e']
     rw[zcn e,b];exact ih
theorem KV.any{kvs:List (κ×V)}{vs:List (κ×Value)}(r:KV kvs vs)(k:κ):(kvs.any fun kv=>decide (kv.1=k))=vs.any fun kv=>decide (kv.1=k):=by
 unfold KV at r
 induction r with
 |nil=>rfl
 |cons h t ih=>rw[List.any_cons,List.any_cons,ih,h.1]
theorem KV.repl{kvs:List (κ×V)}{vs:List (κ×Value)}(r:KV kvs vs)(k:κ){y:V}{u:Value}(ry:RelV y u) :
   KV (kvs.map fun kv=>if kv.1=k then (kv.1,y)else kv) (vs.map fun kv=>if kv.1=k then (kv.1,u)else kv):=by
 unfold KV at r ⊢
 induction r with
 |nil=>exact .nil
 | @cons p q ps qs h t ih=>
   rw[z5x,z5x];refine .cons ?_ ih;obtain⟨h1,h2⟩:=h;by_cases e:p.1=k
   · rw[z55 e,z55 (h1.symm.trans e)];exact⟨h1,ry⟩
   · rw[z6c e,z6c (fun z=>e (h1.trans z))];exact⟨h1,h2⟩
theorem KV.put{kvs:List (κ×V)}{vs:List (κ×Value)}(r:KV kvs vs)(k:κ){y:V}{u:Value}(ry:RelV y u):KV (zif kvs k y) (stored vs k u):=by
 unfold zif stored;rw[r.any k];by_cases e:(vs.any fun kv=>decide (kv.1=k))=true
 · rw[z55 e,z55 e];exact r.repl k ry
 · rw[z6c e,z6c e];exact Paired.snoc r ⟨rfl,ry⟩
theorem KV.keys{kvs:List (κ×V)}{vs:List (κ×Value)}(r:KV kvs vs):kvs.map (·.1)=vs.map (·.1):=by
 unfold KV at r
 induction r with
 |nil=>rfl
 |cons h t ih=>rw[z5x,z5x,ih,h.1]
theorem KV.length{kvs:List (κ×V)}{vs:List (κ×Value)}(r:KV kvs vs):kvs.length=vs.length:=Paired.length r
end
theorem zv5{P:Program}{w:World}{k:Key}{u:Value}(r:RelV (kV k) u):(xi P w).is k u=true:=by
 cases k with
 |inl i=>obtain⟨t,e⟩:=(show ∃t,u=Value.int i t from r);subst e;exact zij P w i t
 |inr x=>obtain⟨t,e⟩:=(show ∃t,u=Value.str x t from r);subst e;exact zii P w x t
theorem zg1{P:Program}{w:World}:∀{ks:List Key}{us:List Value},Vals (ks.map kV) us->ItemsAre (xi P w) ks us
 | [],_,r=>by rw[qbf]at r;cases r;exact .nil
 | k::ks,_,r=>by
   rw[z5x]at r;cases r with
   |cons h t=>exact .cons (zv5 h) (zg1 t)
abbrev KT(H:Hp):List (List Key×V)->List (List Key×Addr×Value)->Prop:=Paired fun p q=>p.1=q.1/\H q.2.1=some (.tup (p.1.map kV))/\RelV p.2 q.2.2
theorem KT.val{H:Hp}{kvs:List (List Key×V)}{xs:List (List Key×Addr×Value)}(r:KT H kvs xs)(k:List Key):RelO (zl7 kvs k) ((atKey xs k).map (·.2)):=by
 induction r with
 |nil=>exact True.intro
 | @cons p q ps qs h t ih=>
   obtain⟨h1,_,h2⟩:=h;by_cases e:p.1=k
   · have e':q.1=k:=h1.symm.trans e;have b:atKey (q::qs) k=some q.2:=by simp[atKey,List.find?_cons,e']
     rw[zcm e,b];exact h2
   · have e':¬ q.1=k:=fun z=>e (h1.trans z);have b:atKey (q::qs) k=atKey qs k:=by simp[atKey,List.find?_cons,e']
     rw[zcn e,b];exact ih
theorem KT.repl{H:Hp}{kvs:List (List Key×V)}{xs:List (List Key×Addr×Value)}(r:KT H kvs xs)(k:List Key){y:V}{u:Value}(ry:RelV y u) :
   KT H (kvs.map fun kv=>if kv.1=k then (kv.1,y)else kv) (xs.map (putAt k u)):=by
 induction r with
 |nil=>exact .nil
 | @cons p q ps qs h t ih=>
   rw[z5x,z5x];refine .cons ?_ ih;obtain⟨h1,h2,h3⟩:=h;unfold putAt;by_cases e:p.1=k
   · rw[z55 e,z55 (h1.symm.trans e)];exact⟨h1,h2,ry⟩
   · rw[z6c e,z6c (fun z=>e (h1.trans z))];exact⟨h1,h2,h3⟩
theorem KT.put{H:Hp}{kvs:List (List Key×V)}{xs:List (List Key×Addr×Value)}(r:KT H kvs xs)(k:List Key){b:Addr}{y:V}{u:Value}(hb:H b=some (.tup (k.map kV)))(ry:RelV y u) :
   KT H (zif kvs k y) (storedH xs k b u):=by
 have e:(kvs.any fun kv=>decide (kv.1=k))=(atKey xs k).isSome:=by rw[zjf,(r.val k).isSome_eq,Option.isSome_map]
 unfold zif storedH;rw[e];by_cases q:(atKey xs k).isSome=true
 · rw[z55 q,z55 q];exact r.repl k ry
 · rw[z6c q,z6c q];exact Paired.snoc r ⟨rfl,hb,ry⟩
theorem KT.keeps{H H':Hp}{kvs:List (List Key×V)}{xs:List (List Key×Addr×Value)}(r:KT H kvs xs)(ht:∀b ys,H b=some (.tup ys)->H' b=some (.tup ys)):KT H' kvs xs :=
 Paired.mapP r fun _ _ z=>⟨z.1,ht _ _ z.2.1,z.2.2⟩
section
variable {P:Program}{w:World}{H:Hp}{h:Heap}{a:Addr}
theorem zyh{u:HO}(ok:HOk P w H h)(e:Rd H a u):ObjOk P w H h a u:=e.ok ok
theorem z0w{kvs:List (Key×V)}(ok:HOk P w H h)(e:Rd H a (.dK kvs)):kvs.length<=sizeLine/\(a==sysModules)=false/\∃vs,KV kvs vs/\h.DictOf (xi P w) a vs :=
 show ObjOk P w H h a (.dK kvs)from zyh ok e
theorem z0x{kvs:List (Key×V)}(ok:HOk P w H h)(e:H a=some (.dK kvs)):kvs.length<=sizeLine/\(a==sysModules)=false/\∃vs,KV kvs vs/\h.DictOf (xi P w) a vs:=z0w ok (.inl e)
theorem zoi{ks:List Key}(ok:HOk P w H h)(e:H a=some (.tup (ks.map kV))):(tupleKind (xi P w)).is h ks a:=by
 obtain⟨_,its,r,o,h1,h2,n,h3⟩:=(show ObjOk P w H h a (.tup (ks.map kV))from ok a _ e)
 exact⟨o,its.toArray,n,h1,h2,h3,by simpa using zg1 r⟩
theorem z0t{kvs:List (List Key×V)}(ok:HOk P w H h)(e:Rd H a (.dT kvs)):kvs.length<=sizeLine/\(a==sysModules)=false /\
   ∃xs,KT H kvs xs/\h.DictOfH (tupleKind (xi P w)) a xs:=by
 obtain⟨z,y,xs,r,o,es,ep,h1,h2,h3,h4,h5⟩:=(show ObjOk P w H h a (.dT kvs)from zyh ok e)
 refine⟨z,y,xs,r,o,es,ep,h1,h2,h3,h4,fun x hx=>?_,h5⟩;have all:∀{l:List (List Key×V)}{m:List (List Key×Addr×Value)},KT H l m->∀x∈m,(tupleKind (xi P w)).is h x.1 x.2.1:=by
   intro l m q
   induction q with
   |nil=>intro x hx;exact nomatch hx
   | @cons p q ps qs hq t ih=>
     intro x hx;rcases z5y.mp hx with e | hx
     · subst e;exact zoi ok (by rw[<-hq.1];exact hq.2.1)
     · exact ih x hx
 exact all r x hx
theorem z3p{kvs:List (List Key×V)}(ok:HOk P w H h)(e:H a=some (.dT kvs)):kvs.length<=sizeLine/\(a==sysModules)=false /\
   ∃xs,KT H kvs xs/\h.DictOfH (tupleKind (xi P w)) a xs:=z0t ok (.inl e)
end
def DGet(H:Hp)(a:Addr)(y:V)(r:Option V):Prop :=
 (∃kvs k,Rd H a (.dK kvs)/\y=kV k/\r=zl7 kvs k)\/∃kvs k b,Rd H a (.dT kvs)/\y=.ref b/\H b=some (.tup (k.map kV))/\r=zl7 kvs k
def DPut(H:Hp)(a:Addr)(y v:V)(H':Hp):Prop :=
 (∃kvs k,H a=some (.dK kvs)/\y=kV k/\kvs.length<sizeLine/\H'=upd H a (.dK (zif kvs k v))) \/
 ∃kvs k b,H a=some (.dT kvs)/\y=.ref b/\H b=some (.tup (k.map kV))/\kvs.length<sizeLine/\H'=upd H a (.dT (zif kvs k v))
theorem DGet.k{H:Hp}{a:Addr}{kvs:List (Key×V)}{k:Key}(e:H a=some (.dK kvs)):DGet H a (kV k) (zl7 kvs k):=.inl ⟨kvs,k,.inl e,rfl,rfl⟩
theorem DPut.k{H:Hp}{a:Addr}{kvs:List (Key×V)}{k:Key}{v:V}(e:H a=some (.dK kvs))(hl:kvs.length<sizeLine):DPut H a (kV k) v (upd H a (.dK (zif kvs k v))):=.inl ⟨kvs,k,e,rfl,hl,rfl⟩
section
variable {X:Cx}{pins:zAO}{σ:St}{H:Hp}{s:Shared}{a:Addr}{y v:V}{u r:Value}{o:Option V}{A:Around}{E:zVP}
theorem Inv.big(I:Inv X pins σ H s):sysModules<s.heap.objs.size:=by have h:mainGlobals<s.heap.objs.size:=(I.mod.glob.keeps I.bk).lt;exact Nat.lt_trans (by decide) h
theorem zwu{Q:zVP}(hu:A.units+1<cLine)(I:Inv X pins σ H s)(g:DGet H a y o)(ry:RelV y u)(h:∀s',Inv X pins σ H s'->Q (.bool (!o.isSome)) s') :
   wpAny (model X.prog X.w) A (compareOp .NotIn u (.ref a)) Q E s:=by
 rcases g with⟨kvs,k,e,ey,l⟩ | ⟨kvs,k,b,e,ey,eb,l⟩
 · subst ey;obtain⟨z,hd,vs,rel,dd⟩:=z0w I.hok e;refine wpAny_notIn_of (zv5 ry) hd dd.mapOf ?_;rw[<-(rel.val k).isSome_eq,<-l];exact h _ (I.tok _)
 · subst ey;cases(show u=Value.ref b from ry);obtain⟨z,hd,xs,rel,dd⟩:=z0t I.hok e;refine wpAny_notIn_heap (tupleKind_room_in1 hu) (zoi I.hok eb) hd dd ?_;have q:=(rel.val k).isSome_eq;rw[Option.isSome_map]at q;rw[<-q,<-l];exact h _ (I.tok _)
theorem zpq{h':Heap}{t':Nat}{ob:HO}(I:Inv X pins σ H s)(mu:Mut (H a))(hs:Heap.SameBut a s.heap h')(he:∃q,h'.get? a=some q)(new:ObjOk X.prog X.w (upd H a ob) h' a ob) :
   Inv X pins σ (upd H a ob) { s with heap:=h',toks:=t' } :=
 I.write (x:=a) (e:=a) mu (.inl rfl) (fun b q hb z=>(hs.2 b hb).trans z) he new
theorem z0y{P:Program}{w:World}{H':Hp}{h':Heap}{kvs:List (Key×V)}{vs:List (Key×Value)}(z:kvs.length<=sizeLine)(hd:(a==sysModules)=false)(rel:KV kvs vs)(dd:h'.DictOf (xi P w) a vs) :
   ObjOk P w H' h' a (.dK kvs):=⟨z,hd,vs,rel,dd⟩
theorem zpr{H':Hp}{Q:Unit->Shared->Prop}(hu:A.units+1<cLine)(I:Inv X pins σ H s)(g:DPut H a y v H')(ry:RelV y u)(rv:RelV v r)(h:∀s',Inv X pins σ H' s'->Q () s') :
   wpAny (model X.prog X.w) A (setItem (.ref a) u r) Q E s:=by
 rcases g with⟨kvs,k,e,ey,l,eH⟩ | ⟨kvs,k,b,e,ey,eb,l,eH⟩
 · subst ey eH;obtain⟨z,hd,vs,rel,dd⟩:=z0x I.hok e;have hz:vs.length<=sizeLine:=by rw[<-rel.length];exact z
   have hl:(zif kvs k v).length<=sizeLine:=by have:=zdh kvs k v;omega
   refine wpAny_setItem_pairs (hsz:=hz) (zv5 ry) dd fun h' dd' hs=>h _ ?_;have he:∃q,h'.get? a=some q:=let⟨q,_,_,hq,_⟩:=dd';⟨q,hq⟩;exact zpq I (by rw[e];exact True.intro) hs he (z0y hl hd (rel.put k rv) dd')
 · subst ey eH;cases(show u=Value.ref b from ry);obtain⟨z,hd,xs,rel,dd⟩:=z3p I.hok e;have hz:xs.length<=sizeLine:=by rw[<-Paired.length rel];exact z
   have hl:(zif kvs k v).length<=sizeLine:=by have:=zdh kvs k v;omega
   refine wpAny_setItem_heap (hsz:=hz) (tupleKind_room_in1 hu) (zoi I.hok eb) dd fun h' dd' hs=>h _ ?_;obtain⟨q,es,ep,hq,h2,h3,h4,_,h5⟩:=dd';refine zpq I (by rw[e];exact True.intro) hs ⟨q,hq⟩ ⟨hl,hd,_,(rel.put k eb rv).keeps fun c ys ec=>?_,q,es,ep,hq,h2,h3,h4,h5⟩;rw[z0 (ne_of ec e (fun z=>nomatch z))];exact ec
end
def z2n(td ty tv:TE):TS:=fun D σ H=>tv σ H fun v H1=>td σ H1 fun x H2=>ty σ H2 fun y H3=>∃a H4,x=.ref a/\DPut H3 a y v H4/\D.nx σ H4
section
variable {X:Cx}{o i e value:Expr}{pos pos' tpos:Pos}{td ty tv:TE}
theorem zvh(hu:X.A.units+1<cLine)(ho:PE X o td)(hi:PE X i ty)(hv:PE X value tv)(hs:swapsWith value (some (.Subscript o i pos')) pos.line X.env=pure false) :
   PS X (.Assign [.Subscript o i pos'] value pos) (z2n td ty tv):=by
 intro pins s σ H D I h;refine wpAny_Assign_Subscript (thn (hv pins s σ H _ I h) fun r s1 ⟨v,H1,I1,rv,q1⟩=>thn (ho pins s1 σ H1 _ I1 q1) fun u s2 ⟨x,H2,I2,rx,q2⟩=>thn (hi pins s2 σ H2 _ I2 q2) fun iv s3 ⟨y,H3,I3,ry,a,H4,ex,g,q3⟩=>?_) hs;subst ex;obtain rfl:u=Value.ref a:=rx;exact zpr hu I3 g ry rv fun s4 I4=>⟨σ,H4,I4,q3⟩
end
theorem zsa{P:Program}{w:World}{H:Hp}(h:Heap)(hb:sysModules<h.objs.size):ObjOk P w H (h.push { cls:=.type "dict",data:=.dict #[] }) h.objs.size (.dK []) :=
 ⟨z66 _,z8q.mpr (z7s (z56 hb)),[],.nil,Heap.DictOf.new h⟩
def zx2:TE:=fun _ H Q=>∀p,H p=none->Q (.ref p) (upd H p (.dK []))
section
variable {X:Cx}{pos:Pos}
theorem zre:PE X (.Dict [] [] pos) zx2:=fun pins s σ H Q I h=>
 wpAny_Dict_empty ⟨.ref s.heap.objs.size,_,I.laid (a:=s.heap.objs.size) (o:=.dK []) (t':=s.toks) (fun _ _ q=>z5t _ q) (z5p _) (zsa s.heap I.big),rfl,h _ (I.hok.fresh (z5p _))⟩
end
end L2
namespace F
open PySem L2
def zzh:Expr->Bool
 | .Starred ..=>false
 |_=>true
theorem qd{e:Expr}{es:List Expr}{env:Env}(h:zzh e=true):starEach (e::es) env=(false,eval e env)::starEach es env:=by cases e<;>first | rfl | cases h
theorem qv{pos:Pos}{env:Env}:∀{es:List Expr},es.all zzh=true->(backTo pos (starEach es env)).any (·.1)=false
 | [],_=>rfl
 | e::es,h=>by rw[List.all_cons,z6p]at h;rw[qd h.1];show(false||(backTo pos (starEach es env)).any (·.1))=false;rw[qv h.2];rfl
structure LT where
 params:Arguments
 body:Expr
 scope:Scope
 qual:Str
 caps:List Str:=[]
 cl:zLA:=[]
inductive D where
 |non | bl (b:Bool) | int (i:Int) | str (x:Str) | fn (x:Str) | ty (n:String)
 |tup (ds:List D) | lst (ds:List D) | obj (i:Nat) | lam (t:LT) | clo (t:LT) (vs:List D)
inductive MO where
 |lst (ds:List D) | ins (c:Str) (fs:List (Str×D)) | dct (kvs:List (Int×D)) | exc (c:Str) | tab (x q:Str)
abbrev Sto:=List MO
abbrev Ev:=List (Option D)
abbrev E:=Ev->Sto->Option (D×Sto)
abbrev B:=Ev->Sto->Option (Bool×Sto)
abbrev As:=Ev->Sto->Option (List D×Sto)
abbrev G:=List D->Sto->Option (D×Sto)
inductive Out where
 |nx (e:Ev) | rt (d:D) | bk (e:Ev) | ct (e:Ev)
abbrev C:=Ev->Sto->Option (Out×Sto)
def TupAt(K:zFr)(ρ:List Addr)(H:Hp)(p:Addr)(vs:List V):Prop :=
 (p∉ρ/\Rd H p (.tup vs))\/∃(o:Obj) (its:Array Value) (n:Nat),K.lookup p=some o/\o.cls=.type "tuple"/\o.data=.seq its n/\its.size<=sizeLine/\Vals vs its.toList
def LstAt(K:zFr)(ρ:List Addr)(H:Hp)(p:Addr)(vs:List V):Prop :=
 (p∉ρ/\Rd H p (.lst vs))\/∃(o:Obj) (its:Array Value) (n:Nat),K.lookup p=some o/\o.cls=.type "list"/\o.dict=none/\o.data=.seq its n/\its.size<=sizeLine/\Vals vs its.toList
theorem TupAt.sq{K ρ H p vs}(h:TupAt K ρ H p vs):SqT K H p vs:=by
 rcases h with⟨_,h⟩ | h
 · exact .inl h
 · exact .inr h
theorem LstAt.sq{K ρ H p vs}(h:LstAt K ρ H p vs):SqL K H p vs:=by
 rcases h with⟨_,h⟩ | h
 · exact .inl h
 · exact .inr h
def zau(c:Addr)(q:Str):Heap->Prop:=fun h=>h.CodeRec (.ref c) q
def z1s(t:LT)(a c:Addr)(pm ct:Value):Heap->Prop:=fun h=>h.get? a=some (PySem.W.kla_obj "<lambda>" t.qual t.params t.body t.scope t.cl pm c ct)
def LamAt(ρ:List Addr)(H:Hp)(t:LT)(a:Addr):Prop:=a∉ρ/\∃c pm ct,c∉ρ/\H a=some (.ext (z1s t a c pm ct))/\H c=some (.ext (zau c t.qual))
def zsf(t:LT)(cl:zLA)(a c:Addr)(pm ct:Value):Heap->Prop:=fun h=>h.get? a=some (PySem.W.kla_obj "<lambda>" t.qual t.params t.body t.scope cl pm c ct)
def Cells(ρ:List Addr)(H:Hp):List Str->List V->zLA->Prop
 | [],[],[]=>True
 |x::xs,u::us,p::cl=>p.1=x/\p.2∉ρ/\(∃(o:Obj) (w:Value),H p.2=some (.frz o (.own 0))/\o.data=.cell (some w)/\RelV u w)/\Cells ρ H xs us cl
 |_,_,_=>False
def CloAt(ρ:List Addr)(H:Hp)(t:LT)(us:List V)(a:Addr):Prop:=a∉ρ/\∃c pm ct cl,c∉ρ/\H a=some (.ext (zsf t cl a c pm ct))/\H c=some (.ext (zau c t.qual))/\(cl.map (·.2)).Nodup/\Cells ρ H t.caps us cl
section
variable (K:zFr) (mg:zMg)
mutual
def Rep(ρ:List Addr)(H:Hp):D->V->Prop
 | .non,v=>v=.non
 | .bl b,v=>v=.bl b
 | .int i,v=>v=.int i
 | .str x,v=>v=.str x
 | .fn x,v=>∃a,v=.ref a/\mg x=some (.ref a)
 | .ty n,v=>v=.ty n
 | .tup ds,v=>∃p vs,v=.ref p/\TupAt K ρ H p vs/\RepL ρ H ds vs
 | .lst ds,v=>∃p vs,v=.ref p/\LstAt K ρ H p vs/\RepL ρ H ds vs
 | .obj i,v=>∃a,v=.ref a/\ρ[i]? = some a
 | .lam t,v=>∃a,v=.ref a/\LamAt ρ H t a
 | .clo t vs,v=>∃a us,v=.ref a/\CloAt ρ H t us a/\RepL ρ H vs us
def RepL(ρ:List Addr)(H:Hp):List D->List V->Prop
 | [],vs=>vs=[]
 |d::ds,vs=>∃v r,vs=v::r/\Rep ρ H d v/\RepL ρ H ds r
end
end
structure Ext (ρ:List Addr) (H:Hp) (ρ':List Addr) (H':Hp):Prop where
 pre:∀(i:Nat) (a:Addr),ρ[i]? = some a->ρ'[i]? = some a
 keep:∀b o,H b=some o->b∉ρ->H' b=some o
 new:∀b,b∈ρ'->b∉ρ->H b=none
theorem Ext.refl(ρ:List Addr)(H:Hp):Ext ρ H ρ H:=⟨fun _ _ h=>h,fun _ _ h _=>h,fun _ h n=>absurd h n⟩
theorem Ext.out{ρ ρ' H H'}(e:Ext ρ H ρ' H'){b:Addr}{o:HO}(h:H b=some o)(n:b∉ρ):b∉ρ':=fun z=>by have:=e.new b z n;rw[h]at this;cases this
theorem Ext.trans {ρ ρ' ρ'' H H' H''} (a:Ext ρ H ρ' H') (b:Ext ρ' H' ρ'' H''):Ext ρ H ρ'' H'' where
 pre:=fun i x h=>b.pre i x (a.pre i x h)
 keep:=fun c o h n=>b.keep c o (a.keep c o h n) (a.out h n)
 new:=fun c h n=>by
   by_cases z:c∈ρ'
   · exact a.new c z n
   · cases q:H c with
     |none=>rfl
     | some o=>
       have:=a.keep c o q n;rw[b.new c h z]at this;cases this
section
variable {K:zFr}{mg:zMg}{ρ ρ':List Addr}{H H':Hp}
theorem TupAt.mono{p vs}(h:TupAt K ρ H p vs)(e:Ext ρ H ρ' H'):TupAt K ρ' H' p vs:=by
 rcases h with⟨n,h | ⟨o,h⟩⟩ | h
 · exact .inl ⟨e.out h n,.inl (e.keep _ _ h n)⟩
 · exact .inl ⟨e.out h n,.inr ⟨o,e.keep _ _ h n⟩⟩
 · exact .inr h
theorem LstAt.mono{p vs}(h:LstAt K ρ H p vs)(e:Ext ρ H ρ' H'):LstAt K ρ' H' p vs:=by
 rcases h with⟨n,h | ⟨o,h⟩⟩ | h
 · exact .inl ⟨e.out h n,.inl (e.keep _ _ h n)⟩
 · exact .inl ⟨e.out h n,.inr ⟨o,e.keep _ _ h n⟩⟩
 · exact .inr h
theorem LamAt.mono{t a}(h:LamAt ρ H t a)(e:Ext ρ H ρ' H'):LamAt ρ' H' t a:=by obtain⟨n,c,pm,ct,nc,h1,h2⟩:=h;exact⟨e.out h1 n,c,pm,ct,e.out h2 nc,e.keep _ _ h1 n,e.keep _ _ h2 nc⟩
theorem Cells.mono(e:Ext ρ H ρ' H'):∀{xs:List Str}{us:List V}{cl:zLA},Cells ρ H xs us cl->Cells ρ' H' xs us cl
 | [],[],[],_=>trivial
 | x::xs,u::us,p::cl,h=>by obtain⟨h1,h2,⟨o,w,h3,h4⟩,h5⟩:=h;exact⟨h1,e.out h3 h2,⟨o,w,e.keep _ _ h3 h2,h4⟩,Cells.mono e h5⟩
 | [],[],_::_,h=>h.elim
 | [],_::_,_,h=>h.elim
 |_::_,[],_,h=>h.elim
 |_::_,_::_,[],h=>h.elim
theorem CloAt.mono{t us a}(h:CloAt ρ H t us a)(e:Ext ρ H ρ' H'):CloAt ρ' H' t us a:=by obtain⟨n,c,pm,ct,cl,nc,h1,h2,h3,h4⟩:=h;exact⟨e.out h1 n,c,pm,ct,cl,e.out h2 nc,e.keep _ _ h1 n,e.keep _ _ h2 nc,h3,h4.mono e⟩
mutual
theorem Rep.mono(e:Ext ρ H ρ' H'):∀{d:D}{v:V},Rep K mg ρ H d v->Rep K mg ρ' H' d v
 | .non,_,h=>h
 | .bl _,_,h=>h
 | .int _,_,h=>h
 | .str _,_,h=>h
 | .fn _,_,h=>h
 | .ty _,_,h=>h
 | .tup ds,_,h=>by unfold Rep at h ⊢;obtain⟨p,vs,e1,t,r⟩:=h;exact⟨p,vs,e1,t.mono e,RepL.mono e r⟩
 | .lst ds,_,h=>by unfold Rep at h ⊢;obtain⟨p,vs,e1,t,r⟩:=h;exact⟨p,vs,e1,t.mono e,RepL.mono e r⟩
 | .obj i,_,h=>by unfold Rep at h ⊢;obtain⟨a,e1,t⟩:=h;exact⟨a,e1,e.pre _ _ t⟩
 | .lam t,_,h=>by unfold Rep at h ⊢;obtain⟨a,e1,t⟩:=h;exact⟨a,e1,t.mono e⟩
 | .clo t vs,_,h=>by unfold Rep at h ⊢;obtain⟨a,us,e1,t,r⟩:=h;exact⟨a,us,e1,t.mono e,RepL.mono e r⟩
theorem RepL.mono(e:Ext ρ H ρ' H'):∀{ds:List D}{vs:List V},RepL K mg ρ H ds vs->RepL K mg ρ' H' ds vs
 | [],_,h=>h
 | d::ds,_,h=>by unfold RepL at h ⊢;obtain⟨v,r,e1,h1,h2⟩:=h;exact⟨v,r,e1,Rep.mono e h1,RepL.mono e h2⟩
end
theorem RepL.nil:RepL K mg ρ H [] []:=by unfold RepL;rfl
theorem RepL.cons{d ds v vs}(h:Rep K mg ρ H d v)(t:RepL K mg ρ H ds vs):RepL K mg ρ H (d::ds) (v::vs):=by unfold RepL;exact⟨v,vs,rfl,h,t⟩
theorem RepL.length:∀{ds:List D}{vs:List V},RepL K mg ρ H ds vs->ds.length=vs.length
 | [],_,h=>by unfold RepL at h;subst h;rfl
 | d::ds,_,h=>by unfold RepL at h;obtain⟨v,r,rfl,_,h2⟩:=h;rw[List.length_cons,List.length_cons,h2.length]
theorem RepL.get:∀{ds:List D}{vs:List V}{i:Nat}{d:D},RepL K mg ρ H ds vs->ds[i]? = some d->∃v,vs[i]? = some v/\Rep K mg ρ H d v
 | [],_,_,_,_,e=>by simp at e
 | d::ds,_,0,x,h,e=>by unfold RepL at h;obtain⟨v,r,rfl,h1,_⟩:=h;simp at e;subst e;exact⟨v,rfl,h1⟩
 | d::ds,_,i+1,x,h,e=>by unfold RepL at h;obtain⟨v,r,rfl,_,h2⟩:=h;obtain⟨u,e1,e2⟩:=RepL.get (i:=i) (d:=x) h2 (by simpa using e);exact⟨u,by simpa using e1,e2⟩
theorem RepL.append:∀{ds es:List D}{vs us:List V},RepL K mg ρ H ds vs->RepL K mg ρ H es us->RepL K mg ρ H (ds++es) (vs++us)
 | [],_,_,_,h,t=>by unfold RepL at h;subst h;exact t
 | d::ds,_,_,_,h,t=>by unfold RepL at h;obtain⟨v,r,rfl,h1,h2⟩:=h;exact RepL.cons h1 (RepL.append h2 t)
theorem RepL.take:∀{ds:List D}{vs:List V} (n:Nat),RepL K mg ρ H ds vs->RepL K mg ρ H (ds.take n) (vs.take n)
 |_,_,0,_=>by simpa using RepL.nil
 | [],_,_+1,h=>by unfold RepL at h;subst h;simpa using RepL.nil
 | d::ds,_,n+1,h=>by unfold RepL at h;obtain⟨v,r,rfl,h1,h2⟩:=h;exact RepL.cons h1 (RepL.take n h2)
theorem RepL.drop:∀{ds:List D}{vs:List V} (n:Nat),RepL K mg ρ H ds vs->RepL K mg ρ H (ds.drop n) (vs.drop n)
 |_,_,0,h=>by simpa using h
 | [],_,_+1,h=>by unfold RepL at h;subst h;simpa using RepL.nil
 | d::ds,_,n+1,h=>by unfold RepL at h;obtain⟨v,r,rfl,h1,h2⟩:=h;simpa using RepL.drop n h2
end
def zxj(K:zFr)(mg:zMg)(ρ:List Addr)(H:Hp)(fs:List (Str×D))(vs:List (Str×V)):Prop :=
 vs.map (·.1)=fs.map (·.1)/\RepL K mg ρ H (fs.map (·.2)) (vs.map (·.2))
def zw8(K:zFr)(mg:zMg)(x:Str)(a:Addr):Prop:=∃(f:Addr) (o:Obj) (fd:FuncData) (c:Addr),mg x=some (.ref f)/\K.lookup f=some o/\o.data=.func fd/\fd.code=.ref c/\PySem.W.codeHdIn K c a=true
def MOk(K:zFr)(mg:zMg)(ρ:List Addr)(H:Hp)(a:Addr):MO->Prop
 | .lst ds=>∃vs,H a=some (.lst vs)/\RepL K mg ρ H ds vs
 | .ins c fs=>∃C dx vs,mg c=some (.ref C)/\H a=some (.ins C dx vs)/\zxj K mg ρ H fs vs
 | .dct kvs=>∃vs:List (Key×V),H a=some (.dK vs)/\vs.map (·.1)=kvs.map (fun p=>Sum.inl p.1)/\RepL K mg ρ H (kvs.map (·.2)) (vs.map (·.2))
 | .exc c=>∃C,mg c=some (.ref C)/\H a=some (.ext fun h=>∃o,h.get? a=some o/\o.cls=.ref C)
 | .tab x q=>zw8 K mg x a/\∃ps:Array Value,H a=some (.tbl ps)/\TriplesOk ps.toList/\∀(pos:Pos) (cv:Value),codeAmong pos ps.toList=some cv->∃c,cv=.ref c/\c∉ρ/\H c=some (.ext (zau c q))
structure StOk (K:zFr) (mg:zMg) (ρ:List Addr) (H:Hp) (S:Sto):Prop where
 len:ρ.length=S.length
 nd:ρ.Nodup
 ob:∀(i:Nat) (m:MO) (a:Addr),S[i]? = some m->ρ[i]? = some a->MOk K mg ρ H a m
section
variable {K:zFr}{mg:zMg}{ρ ρ':List Addr}{H H':Hp}{S:Sto}
theorem MOk.mono{a m}(h:MOk K mg ρ H a m)(e:Ext ρ H ρ' H')(k:H' a=H a):MOk K mg ρ' H' a m:=by
 cases m with
 |lst ds=>obtain⟨vs,h1,h2⟩:=h;exact⟨vs,k.trans h1,h2.mono e⟩
 |ins c fs=>obtain⟨C,dx,vs,h0,h1,h2,h3⟩:=h;exact⟨C,dx,vs,h0,k.trans h1,h2,h3.mono e⟩
 |dct kvs=>obtain⟨vs,h1,h2,h3⟩:=h;exact⟨vs,k.trans h1,h2,h3.mono e⟩
 |exc c=>obtain⟨C,h1,h2⟩:=h;exact⟨C,h1,k.trans h2⟩
 | tab x q=>
   obtain⟨h0,ps,h1,h2,h3⟩:=h;exact⟨h0,ps,k.trans h1,h2,fun pos cv z=>let⟨c,z1,z2,z3⟩:=h3 pos cv z;⟨c,z1,e.out z3 z2,e.keep _ _ z3 z2⟩⟩
theorem MOk.some{a m}(h:MOk K mg ρ H a m):∃o,H a=some o:=by
 cases m with
 |lst ds=>obtain⟨vs,h1,h2⟩:=h;exact⟨_,h1⟩
 |ins c fs=>obtain⟨C,dx,vs,h0,h1,h2,h3⟩:=h;exact⟨_,h1⟩
 |dct kvs=>obtain⟨vs,h1,h2,h3⟩:=h;exact⟨_,h1⟩
 |exc c=>obtain⟨C,h1,h2⟩:=h;exact⟨_,h2⟩
 |tab x q=>obtain⟨_,ps,h1,_⟩:=h;exact⟨_,h1⟩
theorem StOk.at(s:StOk K mg ρ H S){i:Nat}{a:Addr}(h:ρ[i]? = some a):∃m,S[i]? = some m/\MOk K mg ρ H a m:=by
 have hi:i<ρ.length:=(z5s.mp h).1;have hj:i<S.length:=by rw[<-s.len];exact hi
 exact⟨S[i],z5v hj,s.ob i _ a (z5v hj) h⟩
theorem StOk.adr(s:StOk K mg ρ H S){i:Nat}{m:MO}(h:S[i]? = some m):∃a,ρ[i]? = some a/\MOk K mg ρ H a m:=by
 have hi:i<S.length:=(z5s.mp h).1;have hj:i<ρ.length:=by rw[s.len];exact hi
 exact⟨ρ[i],z5v hj,s.ob i m _ h (z5v hj)⟩
theorem StOk.mem(s:StOk K mg ρ H S){a}(h:a∈ρ):∃o,H a=some o:=by obtain⟨i,hi,e⟩:=List.mem_iff_getElem.mp h;obtain⟨m,_,q⟩:=s.at (i:=i) (a:=a) (by rw[z5v hi,e]);exact q.some
theorem StOk.fresh(s:StOk K mg ρ H S){p}(h:H p=none):p∉ρ:=fun z=>by obtain⟨o,e⟩:=s.mem z;rw[h]at e;cases e
theorem jx(s:StOk K mg ρ H S){p:Addr}(o:HO)(h:H p=none):Ext ρ H ρ (upd H p o) :=
 ⟨fun _ _ e=>e,fun b u e _=>by rw[z0 (qo e h)];exact e,fun _ z n=>absurd z n⟩
theorem StOk.new(s:StOk K mg ρ H S){p:Addr}(o:HO)(h:H p=none):StOk K mg ρ (upd H p o) S :=
 ⟨s.len,s.nd,fun i m a e1 e2=>by
   have q:=s.ob i m a e1 e2;obtain⟨u,z⟩:=q.some;exact q.mono (jx s o h) (z0 (qo z h))⟩
theorem zfv(s:StOk K mg ρ H S){i:Nat}{a:Addr}(o:HO)(h:ρ[i]? = some a):Ext ρ H ρ (upd H a o) :=
 ⟨fun _ _ e=>e,fun b u e n=>by rw[z0 (fun(z:b=a)=>n (by rw[z];exact z6j h))];exact e,fun _ z n=>absurd z n⟩
theorem zjy{l:List Addr}(hN:l.Nodup){i j:Nat}{x:Addr}(a:l[i]? = some x)(b:l[j]? = some x):i=j:=by obtain⟨h1,e1⟩:=z5s.mp a;obtain⟨h2,e2⟩:=z5s.mp b;exact(qba hN).mp (e1.trans e2.symm)
theorem StOk.set(s:StOk K mg ρ H S){i:Nat}{a:Addr}{o:HO}{m:MO}(h:ρ[i]? = some a)(q:MOk K mg ρ (upd H a o) a m):StOk K mg ρ (upd H a o) (S.set i m):=by
 refine⟨by rw[z7m];exact s.len,s.nd,fun j m' b e1 e2=>?_⟩;by_cases hj:j=i
 · subst hj;have hi:j<S.length:=by rw[<-s.len];exact(z5s.mp h).1
   rw[z6r hi]at e1;cases e1;rw[h]at e2;cases e2;exact q
 · rw[z68 (z7s hj)]at e1;exact(s.ob j m' b e1 e2).mono (zfv s o h) (z0 fun z=>hj (zjy s.nd (z▸e2) h))
theorem za7(s:StOk K mg ρ H S){p:Addr}(o:HO)(h:H p=none):Ext ρ H (ρ++[p]) (upd H p o) :=
 ⟨fun i a e=>by rw[z6n (z5s.mp e).1];exact e,fun b u e _=>by rw[z0 (qo e h)];exact e,
   fun b z n=>by
     rcases z6i.mp z with z | z
     · exact absurd z n
     · rw[z6a.mp z];exact h⟩
theorem StOk.add(s:StOk K mg ρ H S){p:Addr}{o:HO}{m:MO}(h:H p=none)(q:MOk K mg (ρ++[p]) (upd H p o) p m):StOk K mg (ρ++[p]) (upd H p o) (S++[m]):=by
 refine⟨by rw[z5n,z5n,s.len]<;>rfl,?_,fun j m' b e1 e2=>?_⟩
 · rw[z89];refine⟨s.nd,by simp,fun x hx y hy=>?_⟩;rw[z6a.mp hy];exact fun z=>s.fresh h (z▸hx)
 · by_cases hj:j<S.length
   · rw[z6n hj]at e1;rw[z6n (by rw[s.len];exact hj)]at e2;have q:=s.ob j m' b e1 e2;obtain⟨u,z⟩:=q.some;exact q.mono (za7 s o h) (z0 (qo z h))
   · rw[z51 (by omega)]at e1;rw[z51 (by rw[s.len];omega)]at e2;have e0:j-S.length=0:=by have:=(z5s.mp e1).1;simp at this;omega
     rw[e0]at e1;rw[s.len,e0]at e2;simp at e1 e2;subst e1 e2;exact q
theorem Rep.tup{p ds vs}{s:StOk K mg ρ H S}(h:H p=none)(r:RepL K mg ρ H ds vs):Rep K mg ρ (upd H p (.tup vs)) (.tup ds) (.ref p):=by unfold Rep;exact⟨p,vs,rfl,.inl ⟨s.fresh h,.inl qg⟩,r.mono (jx s _ h)⟩
theorem Rep.lst{p ds vs}{s:StOk K mg ρ H S}(h:H p=none)(r:RepL K mg ρ H ds vs):Rep K mg ρ (upd H p (.lst vs)) (.lst ds) (.ref p):=by unfold Rep;exact⟨p,vs,rfl,.inl ⟨s.fresh h,.inl qg⟩,r.mono (jx s _ h)⟩
end
structure EnvR (K:zFr) (mg:zMg) (ρ:List Addr) (H:Hp) (ev:Ev) (σ:St):Prop where
 len:ev.length=σ.length
 at_:∀(i:Nat) (d:D),ev[i]? = some (some d)->∃v,σ[i]? = some (some v)/\Rep K mg ρ H d v
section
variable {K:zFr}{mg:zMg}{ρ ρ':List Addr}{H H':Hp}{ev:Ev}{σ:St}
theorem EnvR.mono(h:EnvR K mg ρ H ev σ)(e:Ext ρ H ρ' H'):EnvR K mg ρ' H' ev σ :=
 ⟨h.len,fun i d q=>let⟨v,a,b⟩:=h.at_ i d q;⟨v,a,b.mono e⟩⟩
theorem EnvR.set(h:EnvR K mg ρ H ev σ){d v}(r:Rep K mg ρ H d v)(i:Nat):EnvR K mg ρ H (ev.set i (some d)) (σ.set i (some v)):=by
 refine⟨by rw[z7m,z7m];exact h.len,fun j x q=>?_⟩;by_cases hj:j=i
 · subst hj;have hi:j<ev.length:=by
     have:=(z5s.mp q).1
     rwa [z7m]at this
   rw[z6r hi]at q;cases q;exact⟨v,by rw[z6r (by rw[<-h.len];exact hi)],r⟩
 · rw[z68 (z7s hj)]at q ⊢;exact h.at_ j x q
theorem EnvR.start{N:List Str}{ds:List D}{vs:List V}(h:RepL K mg ρ H ds vs):EnvR K mg ρ H (ds.map some++List.replicate (N.length-ds.length) none) (L2.start N vs):=by
 have hl:=h.length;refine⟨by unfold L2.start;simp[hl],fun i d q=>?_⟩;have hi:i<ds.length:=by
   by_cases hi:i<ds.length
   · exact hi
   · rw[z51 (by simpa using hi),List.getElem?_replicate]at q;split at q<;>cases q
 rw[z6n (by simpa using hi),z6u]at q;cases e:ds[i]? with
 |none=>rw[e]at q;cases q
 | some x=>
   rw[e]at q;cases q;obtain⟨v,e1,r⟩:=h.get e;refine⟨v,?_,r⟩;unfold L2.start;rw[z6n (by simpa [<-hl] using hi),z6u,e1];rfl
end
section
variable (K:zFr) (mg:zMg)
def tE(f:E):TE:=fun σ H Q=>∃ρ ev S d S',EnvR K mg ρ H ev σ/\StOk K mg ρ H S/\f ev S=some (d,S') /\
 ∀v ρ' H',Ext ρ H ρ' H'->StOk K mg ρ' H' S'->Rep K mg ρ' H' d v->Q v H'
def tB(f:B):TT:=fun σ H Q=>∃ρ ev S b S',EnvR K mg ρ H ev σ/\StOk K mg ρ H S/\f ev S=some (b,S') /\
 ∀ρ' H',Ext ρ H ρ' H'->StOk K mg ρ' H' S'->Q b H'
def tAs(f:As):TA:=fun σ H Q=>∃ρ ev S ds S',EnvR K mg ρ H ev σ/\StOk K mg ρ H S/\f ev S=some (ds,S') /\
 ∀vs ρ' H',Ext ρ H ρ' H'->StOk K mg ρ' H' S'->RepL K mg ρ' H' ds vs->Q vs H'
def Post(D:Ends)(S':Sto)(ρ:List Addr)(H:Hp):Out->Prop
 | .nx e=>∀σ' ρ' H',Ext ρ H ρ' H'->StOk K mg ρ' H' S'->EnvR K mg ρ' H' e σ'->D.nx σ' H'
 | .bk e=>∀σ' ρ' H',Ext ρ H ρ' H'->StOk K mg ρ' H' S'->EnvR K mg ρ' H' e σ'->D.bk σ' H'
 | .ct e=>∀σ' ρ' H',Ext ρ H ρ' H'->StOk K mg ρ' H' S'->EnvR K mg ρ' H' e σ'->D.ct σ' H'
 | .rt d=>∀v ρ' H',Ext ρ H ρ' H'->StOk K mg ρ' H' S'->Rep K mg ρ' H' d v->D.rt v H'
def tC(f:C):TS:=fun D σ H=>∃ρ ev S o S',EnvR K mg ρ H ev σ/\StOk K mg ρ H S/\f ev S=some (o,S')/\Post K mg D S' ρ H o
def spG(g:G):Sp:=fun vs H Q _=>∃ρ ds S d S',RepL K mg ρ H ds vs/\StOk K mg ρ H S/\g ds S=some (d,S') /\
 ∀v ρ' H',Ext ρ H ρ' H'->StOk K mg ρ' H' S'->Rep K mg ρ' H' d v->Q v H'
end
theorem Post.ext{K mg}{D:Ends}{S':Sto}{ρ ρ' H H'}(e:Ext ρ H ρ' H'):∀{o:Out},Post K mg D S' ρ H o->Post K mg D S' ρ' H' o
 | .nx _,h=>fun σ' _ _ e'=>h σ' _ _ (e.trans e')
 | .bk _,h=>fun σ' _ _ e'=>h σ' _ _ (e.trans e')
 | .ct _,h=>fun σ' _ _ e'=>h σ' _ _ (e.trans e')
 | .rt _,h=>fun v _ _ e'=>h v _ _ (e.trans e')
def FE(X:Cx)(e:Expr)(f:E):Prop:=PE X e (tE X.K X.mg f)
def FB(X:Cx)(e:Expr)(f:B):Prop:=PT X e (tB X.K X.mg f)
def FW(X:Cx)(e:Expr)(f:B):Prop:=PW X e (tB X.K X.mg f)
def FA(X:Cx)(es:List Expr)(f:As):Prop:=PA X es (tAs X.K X.mg f)
def FS(X:Cx)(st:Stmt)(f:C):Prop:=PS X st (tC X.K X.mg f)
def FSs(X:Cx)(st:List Stmt)(f:C):Prop:=PSs X st (tC X.K X.mg f)
theorem qz{X:Cx}{e:Expr}{t t':TE}(h:PE X e t)(m:∀σ H Q,t' σ H Q->t σ H Q):PE X e t':=fun pins s σ H Q I q=>h pins s σ H Q I (m _ _ _ q)
theorem zc8{X:Cx}{e:Expr}{t t':TT}(h:PT X e t)(m:∀σ H Q,t' σ H Q->t σ H Q):PT X e t':=fun pins s σ H Q I q=>h pins s σ H Q I (m _ _ _ q)
theorem znj{X:Cx}{e:Expr}{t t':TT}(h:PW X e t)(m:∀σ H Q,t' σ H Q->t σ H Q):PW X e t':=fun w pins s σ H Q I q=>h w pins s σ H Q I (m _ _ _ q)
theorem znu{X:Cx}{e:List Expr}{t t':TA}(h:PA X e t)(m:∀σ H Q,t' σ H Q->t σ H Q):PA X e t':=fun pos pins s σ H Q I q=>h pos pins s σ H Q I (m _ _ _ q)
theorem xg{X:Cx}{e:Stmt}{t t':TS}(h:PS X e t)(m:∀σ H Q,t' Q σ H->t Q σ H):PS X e t':=fun pins s σ H Q I q=>h pins s σ H Q I (m _ _ _ q)
theorem zju{X:Cx}{e:List Stmt}{t t':TS}(h:PSs X e t)(m:∀σ H Q,t' Q σ H->t Q σ H):PSs X e t':=fun pins s σ H Q I q=>h pins s σ H Q I (m _ _ _ q)
end F
namespace F
open PySem L2
noncomputable def eV(i:Nat):E:=fun ev S=>match ev[i]? with
 |some (some d)=>some (d,S)
 |_=>none
noncomputable def eK(d:D):E:=fun _ S=>some (d,S)
def e1(op:D->Option D)(f:E):E:=fun ev S=>(f ev S).bind fun p=>(op p.1).map fun d=>(d,p.2)
def e2(op:D->D->Option D)(f g:E):E:=fun ev S=>(f ev S).bind fun p=>(g ev p.2).bind fun q=>(op p.1 q.1).map fun d=>(d,q.2)
def e2s(op:Sto->D->D->Option D)(f g:E):E:=fun ev S=>(f ev S).bind fun p=>(g ev p.2).bind fun q=>(op q.2 p.1 q.1).map fun d=>(d,q.2)
def aN:As:=fun _ S=>some ([],S)
def aC(f:E)(g:As):As:=fun ev S=>(f ev S).bind fun p=>(g ev p.2).bind fun q=>some (p.1::q.1,q.2)
def eA(op:Sto->List D->Option D)(g:As):E:=fun ev S=>(g ev S).bind fun q=>(op q.2 q.1).map fun d=>(d,q.2)
def zk(g:G)(a:As):E:=fun ev S=>(a ev S).bind fun q=>g q.1 q.2
def zds(c:Str)(S:Sto):D->Option (Nat×List (Str×D))
 | .obj i=>match S[i]? with
   |some (.ins c' fs)=>if c'=c then some (i,fs)else none
   |_=>none
 |_=>none
def xw(c m:Str)(g:G)(f:E)(a:As):E:=fun ev S=>(f ev S).bind fun p=>(zds c p.2 p.1).bind fun r=>if r.2.lookup m=none then (a ev p.2).bind fun q=>g (p.1::q.1) q.2 else none
def zpl(c:Str)(g:G)(a:As):E:=fun ev S=>(a ev S).bind fun q=>(g (.obj q.2.length::q.1) (q.2++[.ins c []])).bind fun r=>match r.1 with
 | .non=>some (.obj q.2.length,r.2)
 |_=>none
def zxf(c n:Str)(f:E):E:=fun ev S=>(f ev S).bind fun p=>(zds c p.2 p.1).bind fun r=>(r.2.lookup n).map fun d=>(d,p.2)
def zpk(g:As):E:=fun ev S=>(g ev S).bind fun q=>if q.1.length<=sizeLine then some (.obj q.2.length,q.2++[.lst q.1])else none
def za8(g:As):E:=eA (fun _ ds=>if ds.length<=sizeLine then some (.tup ds)else none) g
def zr9(g:As):E:=eA (fun _ ds=>if ds.length<=sizeLine then some (.lst ds)else none) g
def bE(f:E):B:=fun ev S=>(f ev S).bind fun p=>match p.1 with
 | .bl b=>some (b,p.2)
 |_=>none
def zhu(f:B):B:=fun ev S=>(f ev S).map fun p=>(!p.1,p.2)
def zhv(f g:B):B:=fun ev S=>(f ev S).bind fun p=>if p.1=true then g ev p.2 else some (false,p.2)
def bOr(f g:B):B:=fun ev S=>(f ev S).bind fun p=>if p.1=true then some (true,p.2)else g ev p.2
def z0r(f:E):E:=e1 (fun d=>match d with | .bl b=>some (.bl !b) | _=>none) f
def zxg(f g:E):E:=fun ev S=>(f ev S).bind fun p=>match p.1 with
 | .bl true=>g ev p.2
 | .bl false=>some (.bl false,p.2)
 |_=>none
def jy:C:=fun ev S=>some (.nx ev,S)
def qb(a b:C):C:=fun ev S=>(a ev S).bind fun p=>match p.1 with
 | .nx e=>b e p.2
 |o=>some (o,p.2)
def qi(f:E):C:=fun ev S=>(f ev S).map fun p=>(.rt p.1,p.2)
def zyd:C:=fun _ S=>some (.rt .non,S)
def za3(f:E):C:=fun ev S=>(f ev S).map fun p=>(.nx ev,p.2)
def qm(i:Nat)(f:E):C:=fun ev S=>(f ev S).map fun p=>(.nx (ev.set i (some p.1)),p.2)
def z5m(i j:Nat)(f:As):C:=fun ev S=>(f ev S).bind fun p=>match p.1 with
 | [a,b]=>some (.nx ((ev.set i (some a)).set j (some b)),p.2)
 |_=>none
def yu(ev:Ev):List Nat->List D->Option Ev
 | [],[]=>some ev
 |i::is,d::ds=>yu (ev.set i (some d)) is ds
 |_,_=>none
def sIf(c:B)(a b:C):C:=fun ev S=>(c ev S).bind fun p=>if p.1=true then a ev p.2 else b ev p.2
def zc6:C:=fun _ _=>none
def ztd(n:Str)(d:D):List (Str×D)->List (Str×D)
 | []=>[(n,d)]
 | (g,x)::r=>if g=n then (g,d)::r else (g,x)::ztd n d r
def zlc(c n:Str)(o v:E):C:=fun ev S=>(v ev S).bind fun p=>(o ev p.2).bind fun q=>(zds c q.2 q.1).bind fun r=>if r.2.length<1000 then some (.nx ev,q.2.set r.1 (.ins c (ztd n p.1 r.2)))else none
def z4y(o i v:E):C:=fun ev S=>(v ev S).bind fun p=>(o ev p.2).bind fun q=>(i ev q.2).bind fun r=>match q.1,r.1 with
 | .obj a,.int k=>(match r.2[a]? with
   |some (.lst ds)=>(ixN ds.length k).map fun j=>(.nx ev,r.2.set a (.lst (ds.set j p.1)))
   |_=>none)
 |_,_=>none
def ko(o v:E):C:=fun ev S=>(o ev S).bind fun q=>match q.1 with
 | .obj a=>(match q.2[a]? with
   | some (.lst _)=>(v ev q.2).bind fun p=>(match p.2[a]? with
     |some (.lst ds)=>if ds.length<sizeLine then some (.nx ev,p.2.set a (.lst (ds++[p.1])))else none
     |_=>none)
   |_=>none)
 |_=>none
def za4(i:Nat)(body:C):List D->Ev->Sto->Option (Out×Sto)
 | [],ev,S=>some (.nx ev,S)
 | d::ds,ev,S=>(body (ev.set i (some d)) S).bind fun p=>match p.1 with
   | .nx e=>za4 i body ds e p.2
   | .ct e=>za4 i body ds e p.2
   | .bk e=>some (.nx e,p.2)
   | .rt x=>some (.rt x,p.2)
def zqx(i:Nat)(f:E)(body:C):C:=fun ev S=>(f ev S).bind fun p=>match p.1 with
 | .lst ds=>za4 i body ds ev p.2
 |_=>none
def jc(lo:Int)(n:Nat):List D:=(List.range n).map fun k:Nat=>D.int (lo+(k:Int))
def zqw(i:Nat)(f:E)(body:C):C:=fun ev S=>(f ev S).bind fun p=>match p.1 with
 | .int j=>if -(2^62)<=j/\j<2^62 then za4 i body (jc 0 j.toNat) ev p.2 else none
 |_=>none
def y4(c:B)(body:C):Nat->Ev->Sto->Option (Out×Sto)
 |0,_,_=>none
 | n+1,ev,S=>(c ev S).bind fun p=>if p.1=true then (body ev p.2).bind fun q=>(match q.1 with
   | .nx e=>y4 c body n e q.2
   | .ct e=>y4 c body n e q.2
   | .bk e=>some (.nx e,q.2)
   | .rt x=>some (.rt x,q.2))else some (.nx ev,p.2)
def zm7(n:Nat)(c:B)(body:C):C:=y4 c body n
def z7(N n:Nat)(c:C):G:=fun ds S=>if ds.length=n then (match c (ds.map some++List.replicate (N-ds.length) none) S with
 |some (.nx _,S1)=>some (.non,S1)
 |some (.rt d,S1)=>some (d,S1)
 |_=>none)else none
theorem zw{α β:Type}{o:Option α}{f:α->Option β}{b:β}(h:o.bind f=some b):∃a,o=some a/\f a=some b:=by
 cases o with
 |none=>cases h
 |some a=>exact⟨a,rfl,h⟩
theorem zas{α β:Type}{o:Option α}{f:α->β}{b:β}(h:o.map f=some b):∃a,o=some a/\f a=b:=by
 cases o with
 |none=>cases h
 |some a=>exact⟨a,rfl,z62 h⟩
section
variable {X:Cx}
def zga(K:zFr)(mg:zMg)(R:R2)(op:Sto->D->D->Option D):Prop :=
 ∀(ρ:List Addr) (H:Hp) (S:Sto) (x y:V) (dx dy d:D) (Q:VK),StOk K mg ρ H S->Rep K mg ρ H dx x->Rep K mg ρ H dy y->op S dx dy=some d ->
   (∀v H',Ext ρ H ρ H'->StOk K mg ρ H' S->Rep K mg ρ H' d v->Q v H')->R x y H Q
def zxi(K:zFr)(mg:zMg)(R:List V->Hp->VK->Prop)(op:Sto->List D->Option D):Prop :=
 ∀(ρ:List Addr) (H:Hp) (S:Sto) (xs:List V) (ds:List D) (d:D) (Q:VK),StOk K mg ρ H S->RepL K mg ρ H ds xs->op S ds=some d ->
   (∀v H',Ext ρ H ρ H'->StOk K mg ρ H' S->Rep K mg ρ H' d v->Q v H')->R xs H Q
section
variable {K:zFr}{mg:zMg}{R R':R2}{op op':Sto->D->D->Option D}
theorem t2(hs:zga K mg R op){f g:E}{σ:St}{H:Hp}{Q:VK}(h:tE K mg (e2s op f g) σ H Q):tOp R (tE K mg f) (tE K mg g) σ H Q:=by obtain⟨ρ,ev,S,d,S',hE,hS,hf,k⟩:=h;obtain⟨⟨x,S1⟩,q1,hf⟩:=zw hf;obtain⟨⟨y,S2⟩,q2,hf⟩:=zw hf;obtain⟨z,q3,hf⟩:=zas hf;cases hf;refine⟨ρ,ev,S,x,S1,hE,hS,q1,fun v ρ1 H1 E1 hS1 r1=>⟨ρ1,ev,S1,y,S2,hE.mono E1,hS1,q2,fun u ρ2 H2 E2 hS2 r2=>?_⟩⟩;exact hs ρ2 H2 _ v u x y _ Q hS2 (r1.mono E2) r2 q3 fun w H' E3 hS3 r3=>k w ρ2 H' ((E1.trans E2).trans E3) hS3 r3
end
theorem zdz{o:Operator}{R:R2}{op:Sto->D->D->Option D}{a b:Expr}{f g:E}{pos:Pos}(ho:OpR X (binaryOp o) R)(hs:zga X.K X.mg R op)(ha:FE X a f)(hb:FE X b g):FE X (.BinOp a o b pos) (e2s op f g) :=
 qz (z2u ho ha hb) fun _ _ _ h=>t2 hs h
theorem zo6{o:CmpOp}{R:R2}{op:Sto->D->D->Option D}{a b:Expr}{f g:E}{pos:Pos}(ho:OpR X (compareOp o) R)(hs:zga X.K X.mg R op)(ha:FE X a f)(hb:FE X b g)(hm:behindInMarks o b=false):FE X (.Compare a [o] [b] pos) (e2s op f g) :=
 qz (zvp ho ha hb hm) fun _ _ _ h=>t2 hs h
theorem zul{K mg}{f:E}{t:TE}{σ:St}{H:Hp}{Q:Bool->Hp->Prop}(m:∀Q,tE K mg f σ H Q->t σ H Q)(h:tB K mg (bE f) σ H Q):zuq t σ H Q:=by
 obtain⟨ρ,ev,S,b,S',hE,hS,hf,k⟩:=h;obtain⟨⟨x,S1⟩,q1,hf⟩:=zw hf;cases x with
 | bl c=>
   cases hf;refine m _ ⟨ρ,ev,S,_,_,hE,hS,q1,fun v ρ1 H1 E1 hS1 r1=>?_⟩;exact⟨b,r1,k ρ1 H1 E1 hS1⟩
 |_=>cases hf
theorem zaz{o:CmpOp}{R:R2}{op:Sto->D->D->Option D}{a b:Expr}{f g:E}{pos:Pos}(ho:OpR X (compareOp o) R)(hs:zga X.K X.mg R op)(ha:FE X a f)(hb:FE X b g)(hm:behindInMarks o b=false):FB X (.Compare a [o] [b] pos) (bE (e2s op f g)) :=
 zc8 (zvd ho ha hb hm) fun _ _ _ h=>zul (fun _ h=>t2 hs h) h
theorem zf(i:Nat){x:Str}{pos:Pos}(hN:X.N[i]? = some x:=by rfl)(hv:Vis X.env.scope x:=by first | exact Or.inl rfl | exact Or.inr (Or.inl rfl) | exact Or.inr (Or.inr rfl))(hd:(x==("__debug__":Str))=false:=by decide)
   (hcd:(x==("__classdict__":Str))=false:=by decide):FE X (.Name x pos) (eV i) :=
 qz (zy0 hN hv hd hcd) fun σ H Q h=>by
   obtain⟨ρ,ev,S,d,S',hE,hS,hf,k⟩:=h;unfold eV at hf;split at hf
   · rename_i x e;cases hf;obtain⟨v,e1,r⟩:=hE.at_ i _ e;exact⟨v,e1,k v ρ H (Ext.refl _ _) hS r⟩
   · cases hf
theorem yp{e:Expr}{v:V}{d:D}(h:PE X e (L2.tC v))(r:∀ρ H,Rep X.K X.mg ρ H d v):FE X e (eK d) :=
 qz h fun σ H Q h=>by obtain⟨ρ,ev,S,d,S',hE,hS,hf,k⟩:=h;cases hf;exact k v ρ H (Ext.refl _ _) hS (r _ _)
theorem zo{i:Int}{j pos}:FE X (.Constant (.int i) j pos) (eK (.int i)):=yp zy6 fun _ _=>rfl
theorem yq{b:Bool}{j pos}:FE X (.Constant (.bool b) j pos) (eK (.bl b)):=yp z2x fun _ _=>rfl
theorem jw{j pos}:FE X (.Constant .none j pos) (eK .non):=yp zy5 fun _ _=>rfl
theorem zax{x:Str}{j pos}:FE X (.Constant (.str x) j pos) (eK (.str x)):=yp zy2 fun _ _=>rfl
theorem zy{x:Str}{n:Int}{pos:Pos}(hm:∃t,X.mg x=some (.int n t))(hg:Gl X x:=by rfl)(hd:(x==("__debug__":Str))=false:=by decide):FE X (.Name x pos) (eK (.int n)):=by obtain⟨t,hm⟩:=hm;exact yp (znr hg hm (v:=.int n) ⟨t,rfl⟩ hd) fun _ _=>rfl
theorem kg{x:Str}{pos:Pos}(hm:∃f,X.mg x=some (.ref f))(hg:Gl X x:=by rfl)(hd:(x==("__debug__":Str))=false:=by decide):FE X (.Name x pos) (eK (.fn x)):=by obtain⟨f,hm⟩:=hm;exact yp (znr hg hm (v:=.ref f) rfl hd) fun ρ H=>by unfold Rep;exact⟨f,rfl,hm⟩
theorem zd:FA X [] aN:=znu ztg fun σ H Q h=>by obtain⟨ρ,ev,S,d,S',hE,hS,hf,k⟩:=h;cases hf;exact k [] ρ H (Ext.refl _ _) hS RepL.nil
theorem zb{e:Expr}{es:List Expr}{f:E}{g:As}(ha:FE X e f)(hr:FA X es g)(hs:starEach (e::es) X.env=(false,eval e X.env)::starEach es X.env:=by exact qd rfl):FA X (e::es) (aC f g) :=
 znu (znv ha hr hs) fun σ H Q h=>by obtain⟨ρ,ev,S,d,S',hE,hS,hf,k⟩:=h;obtain⟨⟨x,S1⟩,q1,hf⟩:=zw hf;obtain⟨⟨y,S2⟩,q2,hf⟩:=zw hf;cases hf;refine⟨ρ,ev,S,x,S1,hE,hS,q1,fun v ρ1 H1 E1 hS1 r1=>⟨ρ1,ev,S1,y,_,hE.mono E1,hS1,q2,fun vs ρ2 H2 E2 hS2 r2=>?_⟩⟩;exact k (v::vs) ρ2 H2 (E1.trans E2) hS2 (RepL.cons (r1.mono E2) r2)
theorem tA{K mg}{R:List V->Hp->VK->Prop}{op:Sto->List D->Option D}(hs:zxi K mg R op){g:As}{σ:St}{H:Hp}{Q:VK}(h:tE K mg (eA op g) σ H Q):tAs K mg g σ H fun vs H1=>R vs H1 Q:=by obtain⟨ρ,ev,S,d,S',hE,hS,hf,k⟩:=h;obtain⟨⟨x,S1⟩,q1,hf⟩:=zw hf;obtain⟨z,q3,hf⟩:=zas hf;cases hf;exact⟨ρ,ev,S,x,_,hE,hS,q1,fun vs ρ1 H1 E1 hS1 r1=>hs ρ1 H1 _ vs x _ Q hS1 r1 q3 fun w H' E3 hS3 r3=>k w ρ1 H' (E1.trans E3) hS3 r3⟩
theorem xf{es:List Expr}{g:As}{x1 pos}(h:FA X es g):FE X (.Tuple es x1 pos) (za8 g) :=
 qz (zy1 h) fun σ H Q h=>tA (K:=X.K) (mg:=X.mg) (R:=fun xs H1 Q=>xs.length<=sizeLine/\∀p,H1 p=none->Q (.ref p) (upd H1 p (.tup xs))) (fun ρ H S xs ds d Q hS r e k=>by
   split at e
   · rename_i hl;cases e;exact⟨by rw[<-r.length];exact hl,fun p hp=>k _ _ (jx hS _ hp) (hS.new _ hp) (Rep.tup (s:=hS) hp r)⟩
   · cases e) h
theorem zkh{es:List Expr}{g:As}{pos}(h:FA X es g):FE X (.List es pos) (zr9 g) :=
 qz (ztf h) fun σ H Q h=>tA (K:=X.K) (mg:=X.mg) (R:=fun xs H1 Q=>xs.length<=sizeLine/\∀p,H1 p=none->Q (.ref p) (upd H1 p (.lst xs))) (fun ρ H S xs ds d Q hS r e k=>by
   split at e
   · rename_i hl;cases e;exact⟨by rw[<-r.length];exact hl,fun p hp=>k _ _ (jx hS _ hp) (hS.new _ hp) (Rep.lst (s:=hS) hp r)⟩
   · cases e) h
theorem zo4{es:List Expr}{g:As}{pos}(h:FA X es g):FE X (.List es pos) (zpk g) :=
 qz (ztf h) fun σ H Q h=>by
   obtain⟨ρ,ev,S,d,S',hE,hS,hf,k⟩:=h;obtain⟨⟨x,S1⟩,q1,hf⟩:=zw hf;dsimp only at hf;split at hf
   · rename_i hl;cases hf;refine⟨ρ,ev,S,x,S1,hE,hS,q1,fun vs ρ1 H1 E1 hS1 r1=>⟨by rw[<-r1.length];exact hl,fun p hp=>?_⟩⟩;refine k _ _ _ (E1.trans (za7 hS1 _ hp)) (hS1.add hp ⟨vs,qg,r1.mono (za7 hS1 _ hp)⟩) ?_;unfold Rep;refine⟨p,rfl,?_⟩;rw[z51 (by rw[hS1.len]<;>exact z5p _),hS1.len];simp
   · cases hf
theorem zki{id:String}{R:List V->Hp->VK->Prop}{op:Sto->List D->Option D}{x:Str}{p pos:Pos}{e:Expr}{es:List Expr}{g:As}(hc:CallR X (.builtin id) R)(hs:zxi X.K X.mg R op)(hm:X.mg x=none)(hv:bootBuiltins x=some (.builtin id))(ha:FA X (e::es) g)
   (hg:Gl X x:=by rfl) (hn:x≠"__name__":=by decide) (hdb:(x==("__debug__":Str))=false:=by decide)
   (he:starEach (e::es) X.env=(false,eval e X.env)::starEach es X.env:=by exact qd rfl) (hpl:(backTo pos (starEach es X.env)).any (·.1)=false:=by exact qv rfl):FE X (.Call (.Name x p) (e::es) [] pos) (eA op g) :=
 qz (zjw hc hg hm hv ha hn hdb he hpl) fun σ H Q h=>tA hs h
end
structure Cal (P:Program) (w:World) (K:zFr) (mg:zMg) (base:Heap) (k:Nat) (x:Str) (g:G):Prop where
 ex:∃(f:Addr) (fd:FuncData) (ps:List Str) (ds:List Value) (dvs:List V) (dds:List D) (gg:G),FnOk P w K mg base CX0 k f fd ps (spG K mg gg)/\mg x=some (.ref f)/\PySem.W.keepIn K (.ref f)=true /\
   Binds K fd ps ds/\Vals dvs ds/\(∀ρ H,RepL K mg ρ H dds dvs)/\∀args S r,g args S=some r->gg (args++dds) S=some r
theorem Cal.mono{P w K mg base j k x g}(c:Cal P w K mg base j x g)(h:j<=k):Cal P w K mg base k x g:=by obtain⟨f,fd,ps,ds,dvs,dds,gg,F,r⟩:=c.ex;exact⟨f,fd,ps,ds,dvs,dds,gg,F.mono h,r⟩
structure Mth (P:Program) (w:World) (K:zFr) (mg:zMg) (base:Heap) (k:Nat) (c m:Str) (g:G):Prop where
 ex:∃(C f:Addr) (fd:FuncData) (ps:List Str) (ds:List Value) (dvs:List V) (dds:List D) (gg:G),FnOk P w K mg base CX0 k f fd ps (spG K mg gg)/\mg c=some (.ref C)/\Cls K C/\Meth K C m f /\
   Binds K fd ps ds/\Vals dvs ds/\(∀ρ H,RepL K mg ρ H dds dvs)/\∀args S r,g args S=some r->gg (args++dds) S=some r
structure Mak (P:Program) (w:World) (K:zFr) (mg:zMg) (base:Heap) (k:Nat) (c:Str) (g:G):Prop where
 ex:∃(C f:Addr) (fd:FuncData) (ps:List Str) (ds:List Value) (dvs:List V) (dds:List D) (gg:G),FnOk P w K mg base CX0 k f fd ps (spG K mg gg)/\mg c=some (.ref C)/\Mk K C f /\
   Binds K fd ps ds/\Vals dvs ds/\(∀ρ H,RepL K mg ρ H dds dvs)/\∀args S r,g args S=some r->gg (args++dds) S=some r
def Fld(K:zFr)(mg:zMg)(c n:Str):Prop:=∀C,mg c=some (.ref C)->Cls K C/\NoAttr K C n
section
variable {X:Cx}{k:Nat}{x c m n:Str}{g:G}{e o:Expr}{es:List Expr}{a:As}{f:E}{p pos apos:Pos}
theorem ze3{K mg}{gg:G}{dds:List D}{dvs:List V}(hdd:∀ρ H,RepL K mg ρ H dds dvs)(hg:∀args S r,g args S=some r->gg (args++dds) S=some r){σ:St}{H:Hp}{Q:VK}(h:tE K mg (zk g a) σ H Q) :
   zqo (spG K mg gg) dvs E0 (tAs K mg a) σ H Q:=by
 obtain⟨ρ,ev,S,d,S',hE,hS,hf,k⟩:=h;obtain⟨⟨ds,S1⟩,q1,hf⟩:=zw hf;exact⟨ρ,ev,S,ds,S1,hE,hS,q1,fun vs ρ1 H1 E1 hS1 r1=>⟨ρ1,ds++dds,S1,d,S',r1.append (hdd ρ1 H1),hS1,hg _ _ _ hf,fun v ρ' H' E' hS' r'=>k v ρ' H' (E1.trans E') hS' r'⟩⟩
theorem ze(cal:Cal X.prog X.w X.K X.mg X.base k x g)(hr:Room k X.A)(ha:FA X (e::es) a)(hg:Gl X x:=by rfl)(hdb:(x==("__debug__":Str))=false:=by decide)
   (he:starEach (e::es) X.env=(false,eval e X.env)::starEach es X.env:=by exact qd rfl) (hpl:(backTo pos (starEach es X.env)).any (·.1)=false:=by exact qv rfl) :
   FE X (.Call (.Name x p) (e::es) [] pos) (zk g a):=by
 obtain⟨f,fd,ps,ds,dvs,dds,gg,F,hm,hk,hb,hd,hdd,hgg⟩:=cal.ex;exact qz (zvq F hr hg hm hk hb hd zlf ha hdb he hpl) fun σ H Q h=>ze3 hdd hgg h
theorem zfl{c:Str}{S:Sto}{d:D}{r:Nat×List (Str×D)}(h:zds c S d=some r):d=.obj r.1/\S[r.1]? = some (.ins c r.2):=by
 unfold zds at h;split at h
 · split at h
   · rename_i i _ c' fs e;split at h
     · rename_i hc;cases h;subst hc;exact⟨rfl,e⟩
     · cases h
   · cases h
 · cases h
theorem zib{K mg ρ H S}(hS:StOk K mg ρ H S){c:Str}{i:Nat}{fs:List (Str×D)}{v:V}(h:S[i]? = some (.ins c fs))(r:Rep K mg ρ H (.obj i) v) :
   ∃b C dx vs,v=.ref b/\ρ[i]? = some b/\mg c=some (.ref C)/\H b=some (.ins C dx vs)/\zxj K mg ρ H fs vs:=by
 unfold Rep at r;obtain⟨b,rfl,e⟩:=r;obtain⟨C,dx,vs,h1,h2,h3⟩:=hS.ob i _ b h e;exact⟨b,C,dx,vs,rfl,e,h1,h2,h3⟩
theorem zio{fs:List (Str×D)}{vs:List (Str×V)}{m:Str}(h:vs.map (·.1)=fs.map (·.1))(e:fs.lookup m=none):vs.lookup m=none:=by
 induction fs generalizing vs with
 | nil=>
   cases vs with
   |nil=>rfl
   |cons _ _=>cases h
 | cons q fs ih=>
   cases vs with
   |nil=>cases h
   | cons q' vs=>
     obtain⟨a,b⟩:=q;obtain⟨a',b'⟩:=q';simp only[z5x,z8o]at h;obtain⟨h1,h2⟩:=h;subst h1;simp only[List.lookup]at e ⊢;split at e
     · cases e
     · exact ih h2 e
theorem zin{K mg ρ H}{fs:List (Str×D)}{vs:List (Str×V)}{m:Str}{d:D}(h:zxj K mg ρ H fs vs)(e:fs.lookup m=some d):∃v,vs.lookup m=some v/\Rep K mg ρ H d v:=by
 obtain⟨h,r⟩:=h
 induction fs generalizing vs with
 |nil=>cases e
 | cons q fs ih=>
   cases vs with
   |nil=>cases h
   | cons q' vs=>
     obtain⟨a,b⟩:=q;obtain⟨a',b'⟩:=q';simp only[z5x,z8o]at h;obtain⟨h1,h2⟩:=h;subst h1;rw[z5x,z5x]at r;unfold RepL at r;obtain⟨u,t,e1,r1,r2⟩:=r;cases e1;simp only[List.lookup]at e ⊢;split at e
     · cases e;exact⟨_,rfl,r1⟩
     · exact ih e h2 r2
theorem je(mt:Mth X.prog X.w X.K X.mg X.base k c m g)(hr:Room k X.A)(ho:FE X o f)(ha:FA X (e::es) a){pl:Sem Bool}
   (hst:starEach (e::es) X.env=(false,eval e X.env)::starEach es X.env:=by exact qd rfl) (hpl:(backTo pos (starEach es X.env)).any (·.1)=false:=by exact qv rfl)
   (ht:eval (.Call (.Attribute o m apos) (e::es) [] pos) X.env=(do
     let ov <-eval o X.env
     standAt apos.atName
     let(f,first) <-holding [ov] (getMethod ov m pl)
     callWith pos f first (backTo pos (starEach (e::es) X.env)) (backToKw pos (keywordEach [] X.env))):=by rfl) :
   FE X (.Call (.Attribute o m apos) (e::es) [] pos) (xw c m g f a):=by
 obtain⟨C,fa,fd,ps,ds,dvs,dds,gg,F,hm,hc,hme,hb,hd,hdd,hgg⟩:=mt.ex;refine qz (zvo ho hc hme F hr hb hd zlf ha hst hpl ht) fun σ H Q h=>?_;obtain⟨ρ,ev,S,d,S',hE,hS,hf,k⟩:=h;obtain⟨⟨y,S1⟩,q1,hf⟩:=zw hf;obtain⟨⟨i,fs⟩,q2,hf⟩:=zw hf;dsimp only at hf q2;split at hf
 · rename_i hl;obtain⟨⟨ys,S2⟩,q3,hf⟩:=zw hf;obtain⟨rfl,hi⟩:=zfl q2;refine⟨ρ,ev,S,_,S1,hE,hS,q1,fun v ρ1 H1 E1 hS1 r1=>?_⟩;obtain⟨b,C',dx,vs,rfl,hb1,hm',hb2,hb3⟩:=zib hS1 hi r1;have ec:C'=C:=by rw[hm]at hm';cases hm';rfl
   subst ec;refine⟨b,dx,vs,rfl,hb2,zio hb3.1 hl,ρ1,ev,S1,ys,S2,hE.mono E1,hS1,q3,fun us ρ2 H2 E2 hS2 r2=>?_⟩;exact⟨ρ2,_,S2,d,S',(RepL.cons (r1.mono E2) r2).append (hdd ρ2 H2),hS2,hgg _ _ _ hf,fun v ρ' H' E' hS' r'=>k v ρ' H' ((E1.trans E2).trans E') hS' r'⟩
 · cases hf
theorem zql{K mg}{gg:G}{C:Addr}{dds:List D}{dvs:List V}(hm:mg c=some (.ref C))(hdd:∀ρ H,RepL K mg ρ H dds dvs)(hg:∀args S r,g args S=some r->gg (args++dds) S=some r){σ:St}{H:Hp}{Q:VK}(h:tE K mg (zpl c g a) σ H Q) :
   zx1 C (spG K mg gg) dvs E0 (tAs K mg a) σ H Q:=by
 obtain⟨ρ,ev,S,d,S',hE,hS,hf,k⟩:=h;obtain⟨⟨ds,S1⟩,q1,hf⟩:=zw hf;obtain⟨⟨y,S2⟩,q2,hf⟩:=zw hf;dsimp only at hf;cases y with
 | non=>
   cases hf;refine⟨ρ,ev,S,ds,S1,hE,hS,q1,fun vs ρ1 H1 E1 hS1 r1=>fun x dx nx ndx ne=>?_⟩;have s0:=hS1.new (.own x) ndx;have nx':upd H1 dx (.own x) x=none:=by rw[z0 (z7s ne)];exact nx
   have e0:=jx hS1 (.own x) ndx;have e1:=za7 s0 (p:=x) (.ins C dx []) nx';have s1:StOk K mg (ρ1++[x]) (upd (upd H1 dx (.own x)) x (.ins C dx [])) (S1++[.ins c []]):=s0.add nx' ⟨C,dx,[],hm,qg,rfl,RepL.nil⟩;have ro:Rep K mg (ρ1++[x]) (upd (upd H1 dx (.own x)) x (.ins C dx [])) (.obj S1.length) (.ref x):=by unfold Rep;refine⟨x,rfl,?_⟩;rw[z51 (by rw[hS1.len]<;>exact z5p _),hS1.len];simp
   refine⟨ρ1++[x],_,_,.non,_,RepL.cons ro ((r1.mono (e0.trans e1)).append (hdd _ _)),s1,hg _ _ _ q2,fun v ρ' H' E' hS' r'=>⟨r',?_⟩⟩;exact k _ ρ' H' (E1.trans ((e0.trans e1).trans E')) hS' (ro.mono E')
 |_=>cases hf
theorem zrz(mk:Mak X.prog X.w X.K X.mg X.base k c g)(hr:Room (k+1) X.A)(hg:Gl X c:=by rfl)(hdb:(c==("__debug__":Str))=false:=by decide) :
   FE X (.Call (.Name c p) [] [] pos) (zpl c g aN):=by
 obtain⟨C,f,fd,ps,ds,dvs,dds,gg,F,hm,M,hb,hd,hdd,hgg⟩:=mk.ex;refine qz (zrd M F hr hg hm hb hd zlf hdb) fun σ H Q h=>?_;have h':=zql (C:=C) (gg:=gg) hm hdd hgg h;obtain⟨ρ,ev,S,d,S',hE,hS,hf,k⟩:=h';cases hf;exact k [] ρ H (Ext.refl _ _) hS RepL.nil
theorem zty(hc:Fld X.K X.mg c n)(ho:FE X o f)(hb:attributeBase o n X.env (eval o X.env)=eval o X.env:=by rfl):FE X (.Attribute o n pos) (zxf c n f) :=
 qz (zy7 ho hb) fun σ H Q h=>by obtain⟨ρ,ev,S,d,S',hE,hS,hf,k⟩:=h;obtain⟨⟨y,S1⟩,q1,hf⟩:=zw hf;obtain⟨⟨i,fs⟩,q2,hf⟩:=zw hf;obtain⟨d',q3,hf⟩:=zas hf;cases hf;obtain⟨rfl,hi⟩:=zfl q2;refine⟨ρ,ev,S,_,_,hE,hS,q1,fun v ρ1 H1 E1 hS1 r1=>?_⟩;obtain⟨b,C,dx,vs,rfl,hb1,hm',hb2,hb3⟩:=zib hS1 hi r1;obtain⟨v,e1,r2⟩:=zin hb3 q3;exact⟨b,C,dx,vs,v,rfl,hb2,(hc C hm').1,(hc C hm').2,e1,k v ρ1 H1 E1 hS1 r2⟩
def zt4(ft:Str->Option G)(f:E)(a:As):E:=fun ev S=>(f ev S).bind fun p=>match p.1 with
 | .fn x=>(ft x).bind fun g=>(a ev p.2).bind fun q=>g q.1 q.2
 |_=>none
theorem zr1{fe:Expr}{ft:Str->Option G}(hT:∀x g,ft x=some g->Cal X.prog X.w X.K X.mg X.base k x g)(hr:Room k X.A)(hf:FE X fe f)(ha:FA X (e::es) a)
   (ht:eval (.Call fe (e::es) [] pos) X.env=(eval fe X.env >>= fun v=>callWith pos v [] (backTo pos (starEach (e::es) X.env)) (backToKw pos (keywordEach [] X.env))):=by rfl)
   (he:starEach (e::es) X.env=(false,eval e X.env)::starEach es X.env:=by exact qd rfl) (hpl:(backTo pos (starEach es X.env)).any (·.1)=false:=by exact qv rfl) :
   FE X (.Call fe (e::es) [] pos) (zt4 ft f a):=by
 intro pins s σ H Q I h;rw[ht];obtain⟨ρ,ev,S,d,S',hE,hS,hf',kk⟩:=h;obtain⟨⟨y,S1⟩,q1,hf'⟩:=zw hf';cases y with
 | fn x=>
   dsimp only at hf';obtain⟨g,hx,hf'⟩:=zw hf';obtain⟨f0,fd,ps,ds,dvs,dds,gg,F,hm,hk,hb,hd,hdd,hgg⟩:=(hT x g hx).ex;refine z5o (thn (hf pins s σ H (fun v H1=>v=.ref f0/\zqo (spG X.K X.mg gg) dvs E0 (tAs X.K X.mg a) σ H1 Q) I ⟨ρ,ev,S,_,S1,hE,hS,q1,fun v ρ1 H1 E1 hS1 r1=>⟨?_,?_⟩⟩) fun u s1 ⟨v,H1,I1,rv,ev1,q⟩=>?_)
   · unfold Rep at r1;obtain⟨b,rfl,e1⟩:=r1;rw[hm]at e1;cases e1;rfl
   · exact ze3 (g:=g) hdd hgg ⟨ρ1,ev,S1,d,S',hE.mono E1,hS1,hf',fun v ρ' H' E' hS' r'=>kk v ρ' H' (E1.trans E') hS' r'⟩
   · subst ev1;obtain rfl:u=Value.ref f0:=rv;refine z80 (h₀:=X.base) I.ok.mod.kin hk (thn (ha pos pins s1 σ H1 _ I1 q) fun us s2 ⟨vs,H2,I2,r,q2⟩=>⟨I2.kIn,?_⟩) he hpl;exact zgk F hr hb hd zlf I2 r q2
 |_=>cases hf'
theorem yf(h:FE X e f)(he:∀whole,isTrue e X.env whole=(do let v <-whole;standAt e.pos;holding [v] (truthy v)):=by intro _;rfl):FB X e (bE f) :=
 zc8 (zyo h he) fun σ H Q h=>by
   obtain⟨ρ,ev,S,b,S',hE,hS,hf,k⟩:=h;obtain⟨⟨x,S1⟩,q1,hf⟩:=zw hf;cases x with
   | bl c=>
     cases hf;exact⟨ρ,ev,S,_,_,hE,hS,q1,fun v ρ1 H1 E1 hS1 r1=>⟨b,r1,k ρ1 H1 E1 hS1⟩⟩
   |_=>cases hf
variable {b:Expr}{rest:List Expr}{u v:B}
theorem zev(h:FB X e u):FB X (.UnaryOp .Not e pos) (zhu u):=zc8 (zyp h) fun σ H Q h=>by obtain⟨ρ,ev,S,b,S',hE,hS,hf,k⟩:=h;obtain⟨⟨x,S1⟩,q1,hf⟩:=zas hf;cases hf;exact⟨ρ,ev,S,_,_,hE,hS,q1,fun ρ1 H1 E1 hS1=>k ρ1 H1 E1 hS1⟩
theorem zfs(h:FB X e u):FW X (.BoolOp .And [e] pos) u:=zvb h
theorem zts(h:FB X e u):FW X (.BoolOp .Or [e] pos) u:=zyj h
theorem zkd(h:FB X e u)(hb:FW X (.BoolOp .And (b::rest) pos) v):FW X (.BoolOp .And (e::b::rest) pos) (zhv u v):=znj (zyl h hb) fun σ H Q h=>by
 obtain⟨ρ,ev,S,b,S',hE,hS,hf,k⟩:=h;obtain⟨⟨x,S1⟩,q1,hf⟩:=zw hf;refine⟨ρ,ev,S,x,S1,hE,hS,q1,fun ρ1 H1 E1 hS1=>?_⟩;cases x with
 |true=>exact z1t ⟨ρ1,ev,S1,b,S',hE.mono E1,hS1,hf,fun ρ2 H2 E2 hS2=>k ρ2 H2 (E1.trans E2) hS2⟩
 |false=>cases hf;exact z1u (k ρ1 H1 E1 hS1)
theorem zzy(h:FB X e u)(hb:FW X (.BoolOp .Or (b::rest) pos) v):FW X (.BoolOp .Or (e::b::rest) pos) (bOr u v):=znj (z2p h hb) fun σ H Q h=>by
 obtain⟨ρ,ev,S,b,S',hE,hS,hf,k⟩:=h;obtain⟨⟨x,S1⟩,q1,hf⟩:=zw hf;refine⟨ρ,ev,S,x,S1,hE,hS,q1,fun ρ1 H1 E1 hS1=>?_⟩;cases x with
 |true=>cases hf;exact z1t (k ρ1 H1 E1 hS1)
 |false=>exact z1u ⟨ρ1,ev,S1,b,S',hE.mono E1,hS1,hf,fun ρ2 H2 E2 hS2=>k ρ2 H2 (E1.trans E2) hS2⟩
theorem zxe(h:FW X e u):FB X e u:=h.pt
variable {g1 g2:E}
theorem zz9{op}(h:FE X e g1):FE X (.BoolOp op [e] pos) g1:=zy3 h
theorem z0f(h:FE X e g1)(hb:FE X (.BoolOp .And (b::rest) pos) g2):FE X (.BoolOp .And (e::b::rest) pos) (zxg g1 g2):=qz (zy9 h hb) fun σ H Q h=>by
 obtain⟨ρ,ev,S,d,S',hE,hS,hf,k⟩:=h;obtain⟨⟨x,S1⟩,q1,hf⟩:=zw hf;refine⟨ρ,ev,S,x,S1,hE,hS,q1,fun w ρ1 H1 E1 hS1 r1=>?_⟩;cases x with
 | bl c=>
   refine⟨c,r1,?_⟩;cases c with
   |true=>exact z1t ⟨ρ1,ev,S1,d,S',hE.mono E1,hS1,hf,fun v ρ2 H2 E2 hS2 r2=>k v ρ2 H2 (E1.trans E2) hS2 r2⟩
   |false=>cases hf;exact z1u (k _ ρ1 H1 E1 hS1 rfl)
 |_=>cases hf
theorem ztw(h:FE X e g1):FE X (.UnaryOp .Not e pos) (z0r g1):=qz (zy4 h) fun σ H Q h=>by
 obtain⟨ρ,ev,S,d,S',hE,hS,hf,k⟩:=h;obtain⟨⟨x,S1⟩,q1,hf⟩:=zw hf;obtain⟨z,q2,hf⟩:=zas hf;cases hf;refine⟨ρ,ev,S,x,_,hE,hS,q1,fun w ρ1 H1 E1 hS1 r1=>?_⟩;cases x with
 |bl c=>cases q2;exact⟨c,r1,k _ ρ1 H1 E1 hS1 rfl⟩
 |_=>cases q2
end
section
variable {X:Cx}{st:Stmt}{rest:List Stmt}{a b body:C}{e o:Expr}{f g h':E}{u:B}{pos pos':Pos}{x c n:Str}
theorem zv:FSs X [] jy:=zju zvf fun σ H D h=>by obtain⟨ρ,ev,S,o,S',hE,hS,hf,k⟩:=h;cases hf;exact k σ ρ H (Ext.refl _ _) hS hE
theorem zg(h1:FS X st a)(h2:FSs X rest b):FSs X (st::rest) (qb a b):=zju (zq6 h1 h2) fun σ H D h=>by
 obtain⟨ρ,ev,S,o,S',hE,hS,hf,k⟩:=h;obtain⟨⟨o1,S1⟩,q1,hf⟩:=zw hf;refine⟨ρ,ev,S,o1,S1,hE,hS,q1,?_⟩;cases o1 with
 |nx e=>exact fun σ' ρ' H' E' hS' hE'=>⟨ρ',e,S1,o,S',hE',hS',hf,k.ext E'⟩
 |rt d=>cases hf;exact k
 |bk e=>cases hf;exact k
 |ct e=>cases hf;exact k
theorem zj(h1:FS X st a):FSs X [st] a:=zve h1
theorem zp(h:FE X e f):FS X (.Return (some e) pos) (qi f):=xg (zys h) fun σ H D h=>by obtain⟨ρ,ev,S,o,S',hE,hS,hf,k⟩:=h;obtain⟨⟨d,S1⟩,q1,hf⟩:=zas hf;cases hf;exact⟨ρ,ev,S,d,_,hE,hS,q1,k⟩
theorem zwe:FS X (.Return none pos) zyd:=xg zvg fun σ H D h=>by obtain⟨ρ,ev,S,o,S',hE,hS,hf,k⟩:=h;cases hf;exact k .non ρ H (Ext.refl _ _) hS rfl
theorem zcw:FS X st zc6:=xg zq8 fun σ H D h=>by obtain⟨ρ,ev,S,o,S',hE,hS,hf,k⟩:=h;cases hf
theorem kx(h:FE X e f)(hs:swapsWith e none pos.line X.env=pure false:=by rfl):FS X (.Expr e pos) (za3 f):=xg (zno h hs) fun σ H D h=>by obtain⟨ρ,ev,S,o,S',hE,hS,hf,k⟩:=h;obtain⟨⟨d,S1⟩,q1,hf⟩:=zas hf;cases hf;exact⟨ρ,ev,S,d,_,hE,hS,q1,fun v ρ1 H1 E1 hS1 r1=>k σ ρ1 H1 E1 hS1 (hE.mono E1)⟩
theorem zq(i:Nat)(h:FE X e f)(hN:X.N.Nodup)(hi:X.N[i]? = some x:=by rfl)(hx:Loc X.env.scope x:=by first | exact Or.inl rfl | exact Or.inr rfl)(hs:swapsWith e (some (.Name x pos')) pos.line X.env=pure false:=by rfl)
   (hf:X.fn x=true\/X.env.scope.names.lookup x=some .local:=by first | exact .inl rfl | exact .inr rfl | assumption):FS X (.Assign [.Name x pos'] e pos) (qm i f) :=
 xg (zyr hN hi hx h hs hf) fun σ H D h=>by obtain⟨ρ,ev,S,o,S',hE,hS,hf,k⟩:=h;obtain⟨⟨d,S1⟩,q1,hf⟩:=zas hf;cases hf;exact⟨ρ,ev,S,d,_,hE,hS,q1,fun v ρ1 H1 E1 hS1 r1=>k _ ρ1 H1 E1 hS1 ((hE.mono E1).set r1 i)⟩
inductive Names (X:Cx):List Expr->List Nat->TGs->Prop where
 |nil:Names X [] [] z4g
 |cons {i:Nat}{x:Str}{px:Pos}{es:List Expr}{is:List Nat}{t:TGs} (hN:X.N.Nodup) (hi:X.N[i]? = some x) (hx:Loc X.env.scope x) (hf:X.fn x=true\/X.env.scope.names.lookup x=some .local) (h:Names X es is t) (p:PGs X (.Name x px::es) (zrv (zg5 i) t)):Names X (.Name x px::es) (i::is) (zrv (zg5 i) t)
theorem Names.pgs{es is t}(h:Names X es is t):PGs X es t:=by
 cases h with
 |nil=>exact zvn
 |cons _ _ _ _ _ p=>exact p
theorem zrh{K mg ρ H}{es is t}(h:Names X es is t):∀{ds:List D}{vs:List V}{ev ev':Ev}{σ:St}{Q:St->Hp->Prop},RepL K mg ρ H ds vs->EnvR K mg ρ H ev σ->yu ev is ds=some ev'->(∀σ',EnvR K mg ρ H ev' σ'->Q σ' H)->t vs σ H Q:=by
 induction h with
 | nil=>
   intro ds vs ev ev' σ Q r hE e k;cases ds with
   | nil=>
     unfold RepL at r;unfold yu at e;cases e;exact⟨r,k σ hE⟩
   |cons _ _=>unfold yu at e;cases e
 | cons hN hi hx hf _ _ ih=>
   intro ds vs ev ev' σ Q r hE e k;cases ds with
   |nil=>unfold yu at e;cases e
   | cons d ds=>
     unfold RepL at r;obtain⟨v,r',rfl,r1,r2⟩:=r;unfold yu at e;exact⟨v,r',rfl,ih r2 (hE.set r1 _) e k⟩
theorem zej:∀{is:List Nat}{ds:List D}{ev ev':Ev},yu ev is ds=some ev'->ds.length=is.length
 | [],[],_,_,_=>rfl
 |i::is,d::ds,_,_,h=>by unfold yu at h;rw[List.length_cons,List.length_cons,zej h]
 | [],_::_,_,_,h=>by unfold yu at h;cases h
 |_::_,[],_,_,h=>by unfold yu at h;cases h
theorem qt(hc:FB X e u){sa sb:List Stmt}(ha:FSs X sa a)(hb:FSs X sb b):FS X (.If e sa sb pos) (sIf u a b):=xg (z2s hc ha hb) fun σ H D h=>by
 obtain⟨ρ,ev,S,o,S',hE,hS,hf,k⟩:=h;obtain⟨⟨x,S1⟩,q1,hf⟩:=zw hf;refine⟨ρ,ev,S,x,S1,hE,hS,q1,fun ρ1 H1 E1 hS1=>?_⟩;cases x with
 |true=>exact z1t ⟨ρ1,ev,S1,o,S',hE.mono E1,hS1,hf,k.ext E1⟩
 |false=>exact z1u ⟨ρ1,ev,S1,o,S',hE.mono E1,hS1,hf,k.ext E1⟩
theorem ztc{K mg ρ H}{n:Str}{d:D}{v:V}(r:Rep K mg ρ H d v):∀{fs:List (Str×D)}{vs:List (Str×V)},zxj K mg ρ H fs vs->zxj K mg ρ H (ztd n d fs) (zd5 n v vs)
 | [],vs,h=>by
   obtain⟨h1,_⟩:=h;cases vs with
   |nil=>exact⟨rfl,RepL.cons r RepL.nil⟩
   |cons _ _=>cases h1
 | (a,b)::fs,vs,h=>by
   obtain⟨h1,h2⟩:=h;cases vs with
   |nil=>cases h1
   | cons q vs=>
     obtain⟨a',b'⟩:=q;simp only[z5x,z8o]at h1;obtain⟨h3,h4⟩:=h1;subst h3;rw[z5x,z5x]at h2;unfold RepL at h2;obtain⟨u,t,e1,r1,r2⟩:=h2;cases e1;rw[show ztd n d ((a',b)::fs)=(if a'=n then (a',d)::fs else (a',b)::ztd n d fs)from rfl,show zd5 n v ((a',b')::vs)=(if a'=n then (a',v)::vs else (a',b')::zd5 n v vs)from rfl];by_cases hn:a'=n
     · rw[z55 hn,z55 hn];exact⟨by simp[h4],RepL.cons r r2⟩
     · rw[z6c hn,z6c hn];obtain⟨i1,i2⟩:=ztc r (fs:=fs) (vs:=vs) ⟨h4,r2⟩;exact⟨by rw[z5x,z5x,i1],RepL.cons r1 i2⟩
theorem zow(hc:Fld X.K X.mg c n)(ho:FE X o f)(hv:FE X e g)(hs:swapsWith e (some (.Attribute o n pos')) pos.line X.env=pure false:=by rfl):FS X (.Assign [.Attribute o n pos'] e pos) (zlc c n f g) :=
 xg (zyt ho hv hs) fun σ H D h=>by
   obtain⟨ρ,ev,S,o,S',hE,hS,hf,k⟩:=h;obtain⟨⟨d,S1⟩,q1,hf⟩:=zw hf;obtain⟨⟨y,S2⟩,q2,hf⟩:=zw hf;obtain⟨⟨i,fs⟩,q3,hf⟩:=zw hf;dsimp only at hf q3;split at hf
   · rename_i hl;cases hf;obtain⟨rfl,hi⟩:=zfl q3;refine⟨ρ,ev,S,d,S1,hE,hS,q1,fun v ρ1 H1 E1 hS1 r1=>⟨ρ1,ev,S1,_,S2,hE.mono E1,hS1,q2,fun w ρ2 H2 E2 hS2 r2=>?_⟩⟩;obtain⟨b,C,dx,vs,rfl,hb1,hm',hb2,hb3⟩:=zib hS2 hi r2;have e0:=zfv hS2 (.ins C dx (zd5 n v vs)) hb1;refine⟨b,C,dx,vs,rfl,hb2,(hc C hm').1,(hc C hm').2,by have:=z7k List.length hb3.1;simp at this;omega,?_⟩;have hf2:zxj X.K X.mg ρ2 (upd H2 b (.ins C dx (zd5 n v vs))) (ztd n d fs) (zd5 n v vs):=ztc ((r1.mono E2).mono e0) ⟨hb3.1,hb3.2.mono e0⟩;exact k σ ρ2 _ ((E1.trans E2).trans e0) (hS2.set hb1 ⟨C,dx,_,hm',qg,hf2⟩) (((hE.mono E1).mono E2).mono e0)
   · cases hf
section
variable {K:zFr}{mg:zMg}{ρ1:List Addr}{H1:Hp}{E:Ends}{S':Sto}{o:Out}{i:Nat}
def zqd(K:zFr)(mg:zMg)(ρ1:List Addr)(H1:Hp)(i:Nat)(body:C)(o:Out)(S':Sto)(ds:List D)(σ:St)(H:Hp):Prop :=
 ∃ρ ev S,Ext ρ1 H1 ρ H/\StOk K mg ρ H S/\EnvR K mg ρ H ev σ/\za4 i body ds ev S=some (o,S')
theorem zml{d:D}{ds:List D}{x:V}{σ:St}{H:Hp}{ρ:List Addr}{ev:Ev}{S:Sto}(k:Post K mg E S' ρ1 H1 o)(e0:Ext ρ1 H1 ρ H)(hS:StOk K mg ρ H S)(hE:EnvR K mg ρ H ev σ)(r:Rep K mg ρ H d x)(hl:za4 i body (d::ds) ev S=some (o,S')) :
   tC K mg body { E with nx:=zqd K mg ρ1 H1 i body o S' ds,ct:=zqd K mg ρ1 H1 i body o S' ds,bk:=E.nx } (σ.set i (some x)) H:=by
 obtain⟨⟨o1,S3⟩,q,hl⟩:=zw hl;refine⟨ρ,ev.set i (some d),S,o1,S3,hE.set r i,hS,q,?_⟩;cases o1 with
 |nx e=>exact fun σ' ρ' H' E' hS' hE'=>⟨ρ',e,S3,e0.trans E',hS',hE',hl⟩
 |ct e=>exact fun σ' ρ' H' E' hS' hE'=>⟨ρ',e,S3,e0.trans E',hS',hE',hl⟩
 |bk e=>cases hl;exact fun σ' ρ' H' E' hS' hE'=>k σ' ρ' H' (e0.trans E') hS' hE'
 |rt y=>cases hl;exact fun v ρ' H' E' hS' r'=>k v ρ' H' (e0.trans E') hS' r'
theorem zhs{σ:St}{H:Hp}(k:Post K mg E S' ρ1 H1 o)(h:zqd K mg ρ1 H1 i body o S' [] σ H):E.nx σ H:=by obtain⟨ρ,ev,S,e0,hS,hE,hl⟩:=h;cases hl;exact k σ ρ H e0 hS hE
end
theorem zwg(i:Nat){l:Expr}{px:Pos}{sb:List Stmt}(hN:X.N.Nodup)(hl:FE X l f)(hb:FSs X sb body)(hp:PassesOwn (model X.prog X.w) X.A X.env X.xe)(hc:X.calm=true:=by rfl)(hi:X.N[i]? = some x:=by rfl)(hx:Loc X.env.scope x:=by first | exact Or.inl rfl | exact Or.inr rfl)
   (hf:X.fn x=true\/X.env.scope.names.lookup x=some .local:=by first | exact .inl rfl | exact .inr rfl | assumption) (hs:∀v,foldedSetIterable l X.env v=pure v:=by intro _;rfl) :
   FS X (.For (.Name x px) l sb [] pos) (zqx i f body) :=
 xg (znn hp hc (zfc hl) (zfd hN hi hx hf) hb hs) fun σ H D h=>by
   obtain⟨ρ,ev,S,o,S',hE,hS,hf,k⟩:=h;obtain⟨⟨d,S1⟩,q1,hf⟩:=zw hf;cases d with
   | lst ds=>
     refine⟨ρ,ev,S,_,S1,hE,hS,q1,fun v ρ1 H1 E1 hS1 r1=>?_⟩;unfold Rep at r1;obtain⟨p,vs,rfl,t,r⟩:=r1;have k1:=k.ext E1;refine⟨p,rfl,⟨vs,t.sq⟩,zkf (K:=X.K) (a:=p) (xs:=vs) (fun j σ' H'=>zqd X.K X.mg ρ1 H1 i body o S' (ds.drop j) σ' H') ⟨ρ1,ev,S1,Ext.refl _ _,hS1,hE.mono E1,hf⟩ (fun j σ' H' _ ⟨ρ',ev',S2,e0,_⟩=>(t.mono e0).sq) ?_ ?_⟩
     · rintro j y σ' H' hj ⟨ρ',ev',S2,e0,hS2,hE2,hl2⟩;have hjl:j<ds.length:=by rw[r.length];exact(z5s.mp hj).1
       have ed:ds.drop j=ds[j]::ds.drop (j+1):=z60 hjl;obtain⟨y',ey,ry⟩:=(r.mono e0).get (z5v hjl);rw[hj]at ey;cases ey;rw[ed]at hl2;exact zml k1 e0 hS2 hE2 ry hl2
     · intro σ' H' ha;rw[z8z (by rw[r.length];exact z5p _)]at ha;exact zhs k1 ha
   |_=>cases hf
theorem zq3{K mg}{ρ1:List Addr}{H1:Hp}{E:Ends}{S' S1:Sto}{o:Out}{i n:Nat}{lo:Int}{σ:St}{ev:Ev}(k:Post K mg E S' ρ1 H1 o)(hS1:StOk K mg ρ1 H1 S1)(hE:EnvR K mg ρ1 H1 ev σ)(hf:za4 i body (jc lo n) ev S1=some (o,S')) :
   ∃W:Nat->Nat->St->Hp->Prop,(∃m,W 0 m σ H1)/\∀j m σ H,W j m σ H ->
     ((Itr lo n).stop j H/\E.nx σ H)\/((Itr lo n).go j H/\∃N:St->Hp->Prop,(∀σ' H',N σ' H'->∃m',m'<m/\W (j+1) m' σ' H')/\∀x H',(Itr lo n).yld j H x H'->zg5 i x σ H' fun σ2 H2=>tC K mg body { E with nx:=N,ct:=N,bk:=E.nx } σ2 H2):=by
 refine zo0 (g:=zg5 i) (fun j σ' H'=>zqd K mg ρ1 H1 i body o S' ((jc lo n).drop j) σ' H') ⟨ρ1,ev,S1,Ext.refl _ _,hS1,hE,hf⟩ ?_ ?_
 · rintro j σ' H' hj ⟨ρ',ev',S2,e0,hS2,hE2,hl2⟩;have hjl:j<(jc lo n).length:=by unfold jc;simpa using hj
   have ed:(jc lo n).drop j=(jc lo n)[j]::(jc lo n).drop (j+1):=z60 hjl;rw[ed]at hl2;refine zml k e0 hS2 hE2 ?_ hl2;have:(jc lo n)[j]=D.int (lo+(j:Int)):=by simp[jc]
   rw[this];exact rfl
 · intro σ' H' ha;rw[z8z (by unfold jc;simp)]at ha;exact zhs k ha
theorem zwf(i:Nat){l:Expr}{px p2 p3:Pos}{sb:List Stmt}(hN:X.N.Nodup)(hm:X.mg "range"=none)(hl:FE X l f)(hb:FSs X sb body)(hp:PassesOwn (model X.prog X.w) X.A X.env X.xe)(hg:Gl X "range":=by rfl)(hc:X.calm=true:=by rfl)(hi:X.N[i]? = some x:=by rfl)(hx:Loc X.env.scope x:=by first | exact Or.inl rfl | exact Or.inr rfl)
   (hf:X.fn x=true\/X.env.scope.names.lookup x=some .local:=by first | exact .inl rfl | exact .inr rfl | assumption) (hst:starEach [l] X.env=[(false,eval l X.env)]:=by exact qd rfl) (hs:∀v,foldedSetIterable (.Call (.Name "range" p2) [l] [] p3) X.env v=pure v:=by intro _;rfl) :
   FS X (.For (.Name x px) (.Call (.Name "range" p2) [l] [] p3) sb [] pos) (zqw i f body) :=
 xg (znn hp hc (zgq hg hm (zb hl zd hst) hst) (zfd hN hi hx hf) hb hs) fun σ H D h=>by
   obtain⟨ρ,ev,S,o,S',hE,hS,hf,k⟩:=h;obtain⟨⟨d,S1⟩,q1,hf⟩:=zw hf;cases d with
   | int j=>
     dsimp only at hf;split at hf
     · rename_i hj;refine⟨ρ,ev,S,[.int j],S1,hE,hS,by simp only[aC,aN,q1,Option.bind_some],fun vs ρ1 H1 E1 hS1 r1=>?_⟩;unfold RepL at r1;obtain⟨v,r,rfl,r2,r3⟩:=r1;unfold RepL at r3;subst r3;exact⟨j,by rw[show v=.int j from r2],hj.1,hj.2,zq3 (k.ext E1) hS1 (hE.mono E1) hf⟩
     · cases hf
   |_=>cases hf
theorem zrw(m:Nat){sb:List Stmt}(hc:FB X e u)(hb:FSs X sb body)(hp:PassesOwn (model X.prog X.w) X.A X.env X.xe):FS X (.While e sb [] pos) (zm7 m u body) :=
 xg (zq7 hp hc hb) fun σ H D h=>by
   obtain⟨ρ,ev,S,o,S',hE,hS,hf,k⟩:=h;refine⟨fun j σ' H'=>∃ρ' ev' S2,Ext ρ H ρ' H'/\StOk X.K X.mg ρ' H' S2/\EnvR X.K X.mg ρ' H' ev' σ'/\y4 u body j ev' S2=some (o,S'),⟨m,ρ,ev,S,Ext.refl _ _,hS,hE,hf⟩,?_⟩;rintro j σ' H' ⟨ρ',ev',S2,e0,hS2,hE2,hl⟩;cases j with
   |zero=>cases hl
   | succ j=>
     obtain⟨⟨c,S3⟩,q1,hl⟩:=zw hl;refine⟨ρ',ev',S2,c,S3,hE2,hS2,q1,fun ρ3 H3 E3 hS3=>?_⟩;cases c with
     | true=>
       obtain⟨⟨o1,S4⟩,q2,hl⟩:=zw hl;refine⟨_,fun σ' H' h=>⟨j,z99 j,h⟩,⟨ρ3,ev',S3,o1,S4,hE2.mono E3,hS3,q2,?_⟩⟩;cases o1 with
       |nx e=>exact fun σ4 ρ4 H4 E4 hS4 hE4=>⟨ρ4,e,S4,(e0.trans E3).trans E4,hS4,hE4,hl⟩
       |ct e=>exact fun σ4 ρ4 H4 E4 hS4 hE4=>⟨ρ4,e,S4,(e0.trans E3).trans E4,hS4,hE4,hl⟩
       |bk e=>cases hl;exact fun σ4 ρ4 H4 E4 hS4 hE4=>k σ4 ρ4 H4 ((e0.trans E3).trans E4) hS4 hE4
       |rt y=>cases hl;exact fun v ρ4 H4 E4 hS4 r4=>k v ρ4 H4 ((e0.trans E3).trans E4) hS4 r4
     |false=>cases hl;exact k σ' ρ3 H3 (e0.trans E3) hS3 (hE2.mono E3)
end
open PySem.Spec PyProof.Rows
structure FunD (K:zFr) (x qual:Str) (st:Stmt) (f:Addr) (fd:FuncData) (dV:Value):Prop where
 ex:∃(oc:Value) (od:Option Addr) (kV doc pm:Value) (an:Option Addr) (cdv ct:Value) (osl:Array (Option Value)),
   fd=PySem.W.fnOf x qual (za9 st) (j5 st) (zh st) dV kV doc pm an cdv ct/\K.lookup f=some ⟨oc,od,.func fd,osl⟩/\PySem.W.codeIn K cdv qual=true
 kp:PySem.W.keepIn K (.ref f)=true
theorem zhn{N n c ds S r}(h:z7 N n c ds S=some r):ds.length=n:=by
 unfold z7 at h;split at h
 · rename_i hl;exact hl
 · cases h
theorem zp3{K mg}{c:C}{N:List Str}{n:Nat}{vs:List V}{H:Hp}{Q:VK}{E:XK}(h:spG K mg (z7 N.length n c) vs H Q E):tC K mg c { nx:=fun _ H'=>Q .non H',rt:=Q } (start N vs) H:=by
 obtain⟨ρ,ds,S,d,S',r,hS,hf,k⟩:=h;unfold z7 at hf;split at hf
 · split at hf
   · rename_i e S1 hc;cases hf;exact⟨ρ,_,S,_,_,EnvR.start r,hS,hc,fun σ' ρ' H' E' hS' _=>k .non ρ' H' E' hS' rfl⟩
   · rename_i e S1 hc;cases hf;exact⟨ρ,_,S,_,_,EnvR.start r,hS,hc,k⟩
   · cases hf
 · cases hf
theorem FunD.ok{P:Program}{w:World}{K:zFr}{mg:zMg}{base:Heap}{x qual:Str}{st:Stmt}{f:Addr}{fd:FuncData}{dV:Value}{N ps:List Str}{k:Nat}{c:C}(F:FunD K x qual st f fd dV)(S:FnScope N ps (zh st))
   (hbody:∀(cdv:Value) (A:Around) (outer:List Env) (s:Shared) (H:Hp) (E:XK),Room k (A.deeper (envOfC qual (zh st) s.heap.objs.size f cdv)) ->
     FSs (zca CX0 P w K mg base N qual (zh st) f cdv A outer s H E).nox (j5 st) c):FnOk P w K mg base CX0 (k+1) f fd ps (spG K mg (z7 N.length ps.length c)):=by
 obtain⟨oc,od,kV,doc,pm,an,cdv,ct,osl,rfl,lk,hcd⟩:=F.ex;refine zz2 lk hcd S (fun vs H Q E h=>?_) fun A outer s H vs Q E hr hsp=>?_
 · obtain⟨ρ,ds,S,d,S',r,hS,hf,k⟩:=h;rw[<-r.length];exact zhn hf
 · exact⟨_,(hbody cdv A outer s H E hr).nox,zp3 hsp⟩
def zhh(cells:zLA):List (Str×NameKind)->zLA->zLA
 | [],acc=>acc
 | (n,k)::r,acc=>zhh cells r (if k=.free then (match cells.lookup n with | some c=>(n,c)::acc | none=>acc)else acc)
theorem zc0{cells:zLA}:∀{names:List (Str×NameKind)}{acc:zLA},(∀x c,acc.lookup x=some c->cells.lookup x=some c)->∀x c,(zhh cells names acc).lookup x=some c->cells.lookup x=some c
 | [],_,h=>h
 | (n,k)::r,acc,h=>by
   unfold zhh;refine zc0 (names:=r) ?_;intro x c;split
   · split
     · rename_i c' e;intro q;simp only[List.lookup]at q;split at q
       · rename_i hx;cases q;rw[z74.mp hx];exact e
       · exact h x c q
     · exact h x c
   · exact h x c
theorem zks{cells:zLA}{x:Str}:∀{names:List (Str×NameKind)}{acc:zLA},(∃c,acc.lookup x=some c)->∃c,(zhh cells names acc).lookup x=some c
 | [],_,h=>h
 | (n,k)::r,acc,h=>by
   unfold zhh;refine zks (names:=r) ?_;split
   · split
     · rename_i c' e;simp only[List.lookup];split
       · exact⟨_,rfl⟩
       · exact h
     · exact h
   · exact h
theorem zfy{cells:zLA}{x:Str}(hx:∃c,cells.lookup x=some c):∀{names:List (Str×NameKind)}{acc:zLA},(x,NameKind.free)∈names->∃c,(zhh cells names acc).lookup x=some c
 | [],_,h=>by cases h
 | (n,k)::r,acc,h=>by
   unfold zhh;rcases z5y.mp h with e | h
   · cases e;refine zks ?_;obtain⟨c,hc⟩:=hx;rw[z55 rfl,hc];exact⟨c,by simp[List.lookup]⟩
   · exact zfy hx h
theorem zby{scope:Scope}{env:Env}(h:∀p∈scope.names,p.2=NameKind.free->∃c,env.cells.lookup p.1=some c):closureFor scope env=pure (zhh env.cells scope.names []):=by
 unfold closureFor;generalize scope.names=names at h;have key:∀(names:List (Str×NameKind)) (acc:zLA),(∀p∈names,p.2=NameKind.free->∃c,env.cells.lookup p.1=some c) ->
     (forIn names acc fun(x:Str×NameKind) (cs:zLA)=>(do
       if(x.2==NameKind.free)=true then do
         let a <-cellOf env x.1
         pure (ForInStep.yield ((x.1,a)::cs))
       else pure (ForInStep.yield cs):Sem (ForInStep (zLA))))=pure (zhh env.cells names acc):=by
   intro names
   induction names with
   |nil=>intro acc _;rfl
   | cons p r ih=>
     intro acc h;obtain⟨n,k⟩:=p;rw[qag];unfold zhh;by_cases hk:k=.free
     · subst hk;obtain⟨c,hc⟩:=h (n,.free) z5z rfl;have hc':env.cells.lookup n=some c:=hc;simp only[z9h,z7l,cellOf,hc',pure_bind];exact ih _ fun q hq=>h q (z5u _ hq)
     · have hb:(k==NameKind.free)=false:=by simpa using hk
       simp only[hb,z50,z61,pure_bind,z6c hk];exact ih _ fun q hq=>h q (z5u _ hq)
 have:=key names [] h
 first
   | (simp only[bind_pure];exact this)
   | (rw[show(fun(x:Str×NameKind) (cs:zLA)=>_)=_ from rfl];exact this)
   |exact this
def zha(ev:Ev)(i:Nat):Option D:=match ev[i]? with
 |some o=>o
 |none=>none
def zf8(σ:L2.St)(i:Nat):Option V:=match σ[i]? with
 |some o=>o
 |none=>none
def jt(X:Cx)(N':List Str)(scope:Scope)(s₀:Shared)(H₀:Hp)(C:Addr)(ex:List Addr):Cx :=
 { X with N:=N',s₀:=s₀,H₀:=H₀,env:=compEnvC scope (zhh X.env.cells scope.names []) C X.env,outer:=X.stack,ex:=ex,fn:=fun _=>false,pn:=[],xe:=fun _ _=>False }
section
variable {X:Cx}{pins:zAO}{σ:L2.St}{H:Hp}{s:Shared}{scope:Scope}{x:Str}{N':List Str}{fr:List Nat}
structure CompOk (X:Cx) (scope:Scope) (x:Str) (N':List Str) (fr:List Nat):Prop where
 nd:(x::N').Nodup
 hx:scope.names.lookup x=some .local
 kind:scope.kind=.function
 frn:fr.map (fun j=>X.N[j]?)=N'.map some
 frk:∀y∈N',X.env.kindOf y=some .cell/\(relabel scope X.env).names.lookup y=some .cell
 chk:∀p∈scope.names,p.2≠.cell/\(p.2=.free->X.env.kindOf p.1=some .cell)/\(p.2=.local->scope.names.lookup p.1=some .local)
theorem ke(nd:(x::N').Nodup)(hx:scope.names.lookup x=some .local)(kind:scope.kind=.function)(frn:fr.map (fun j=>X.N[j]?)=N'.map some)
   (frk:(N'.all fun y=>X.env.kindOf y==some NameKind.cell&&(relabel scope X.env).names.lookup y==some NameKind.cell)=true)
   (chk:(scope.names.all fun p=>p.2 != NameKind.cell&&(p.2 != NameKind.free||X.env.kindOf p.1==some NameKind.cell)&&(p.2 != NameKind.local||scope.names.lookup p.1==some NameKind.local))=true):CompOk X scope x N' fr:=by
 refine⟨nd,hx,kind,frn,fun y hy=>?_,fun p hp=>?_⟩
 · have:=z6y.mp frk y hy;simpa using this
 · have:=z6y.mp chk p hp;simp only[z6p,Bool.or_eq_true,bne_iff_ne,z74]at this;exact⟨this.1.1,fun e=>this.1.2.resolve_left (fun z=>z e),fun e=>this.2.resolve_left (fun z=>z e)⟩
theorem zep{α:Type}{x:Str}{k:α}:∀{l:List (Str×α)},l.lookup x=some k->(x,k)∈l
 | [],h=>by cases h
 | (n,a)::r,h=>by
   simp only[List.lookup]at h;split at h
   · rename_i e;cases h;rw[z74.mp e];exact z5z
   · exact z5u _ (zep h)
theorem CompOk.free(c:CompOk X scope x N' fr){y:Str}(h:(relabel scope X.env).names.lookup y=some .cell\/(relabel scope X.env).names.lookup y=some .free):(y,NameKind.free)∈scope.names:=by
 have go:∀k,(k=NameKind.cell\/k=.free)->(relabel scope X.env).names.lookup y=some k->(y,NameKind.free)∈scope.names:=by
   intro k hk e;have m:=zep e;unfold relabel at m;obtain⟨⟨n,k0⟩,hm,e2⟩:=z7q.mp m;dsimp only at e2;split at e2
   · rename_i hc;cases e2;have:k0=.free:=by rw[z6p,z6p]at hc;simpa using hc.1.1
     subst this;exact hm
   · cases e2;rcases hk with rfl | rfl
     · exact absurd rfl (c.chk _ hm).1
     · exact hm
 rcases h with h | h
 · exact go _ (.inl rfl) h
 · exact go _ (.inr rfl) h
theorem CompOk.start(c:CompOk X scope x N' fr)(I:Inv X pins σ H s){fp:List Addr}(hf:∀b∈fp,zmb X pins H b)(hfl:∀b∈fp,b<s.heap.objs.size){C:Addr}(hC:s.heap.objs.size<=C){h1:Heap}{m:zMg}{t':Nat}(hk:∀b o,s.heap.get? b=some o->h1.get? b=some o)(hn:h1.Ns C m) :
   Inv (jt X (x::N') scope s H C fp) [] (none::fr.map (zf8 σ)) H { s with heap:=h1,toks:=t' }:=by
 have sub:∀y a,(zhh X.env.cells scope.names []).lookup y=some a->X.env.cells.lookup y=some a:=zc0 (fun _ _ h=>by cases h);have hfs:∀b∈frs X.stack,H b=none:=I.stkFree;have cellt:∀y a,X.env.cells.lookup y=some a->a<s.heap.objs.size:=fun y a e=>by obtain⟨v,q⟩:=I.cell y a e;exact q.lt
 refine⟨⟨I.ok.mod,c.kind,I.ok.glob,I.ok.blt,hC,fun y z a h1 h2=>I.ok.inj y z a (sub _ _ h1) (sub _ _ h2),fun y hy=>?_,fun y a h=>?_,I.ok.hd,I.ok.frames,.inl rfl,fun b hb=>⟨z56 (z5q (hfl b hb) hC),fun y a e=>(hf b hb).2.2.2.2.1 y a (sub _ _ e)⟩,I.bs,z6h I.ok.bsz I.sz,fun b o e hb=>?_,fun b hb z=>?_,I.stack,hfs⟩,
   rfl,I.bare,Un.kept hk,⟨m,hn,fun i y v e1 e2 e3=>?_⟩,fun y a e=>?_,I.hok.fresh hC,fun y a e=>I.freeC y a (sub _ _ e),fun p hp=>absurd hp (by simp[jt]),I.hok.kept hk,?_⟩
 · exact zfy (I.ok.has y (.inl ((c.chk _ (c.free hy)).2.1 rfl))) (c.free hy)
 · cases h
 · have:=(I.bs b o e).1;have z:=hf b hb;rcases z.2.2.2.1 with z | z
   · exact I.ok.noex b o e z
   · have:=(I.ok.bs b o e).1;exact absurd (z5q (z58 this) z) (z72 _)
 · rcases z5y.mp (I.stkSub b z)with e | e
   · exact(hf b hb).2.1 e
   · exact(hf b hb).2.2.1 e
 · cases i with
   |zero=>simp at e2
   | succ i=>
     have e1:N'[i]? = some y:=by simpa [jt] using e1
     have e2:(fr.map (zf8 σ))[i]? = some (some v):=by simpa using e2
     rw[z6u]at e2;cases ej:fr[i]? with
     |none=>rw[ej]at e2;cases e2
     | some j=>
       rw[ej]at e2;have e2:zf8 σ j=some v:=by simpa using e2
       have hv:σ[j]? = some (some v):=by
         unfold zf8 at e2;split at e2
         · rename_i o ho;rw[ho,e2]
         · cases e2
       have hN:X.N[j]? = some y:=by have q:=z7k (fun l=>l[i]?) c.frn;simp only[z6u,ej,e1,Option.map_some,Option.some.injEq]at q;exact q
       obtain⟨k1,k2⟩:=c.frk y (z6j e1);obtain⟨mm,_,hl⟩:=I.loc;obtain⟨u,r,l⟩:=hl j y v hN hv (.inr (.inl k1));refine⟨u,r,?_⟩;rcases l with⟨k,_⟩ | ⟨_,a,ha,hcl⟩
       · rw[k1]at k;cases k
       · refine .inr ⟨.inl k2,a,?_,?_⟩
         · obtain⟨a',ha'⟩:=zfy (cells:=X.env.cells) (names:=scope.names) (acc:=[]) ⟨a,ha⟩ (c.free (.inl k2));have:=sub _ _ ha';rw[ha]at this;cases this;exact ha'
         · obtain⟨o,ho,hd⟩:=hcl;exact⟨o,hk _ _ ho,hd⟩
 · obtain⟨v,o,ho,hd⟩:=I.cell y a (sub _ _ e);exact⟨v,o,hk _ _ ho,hd⟩
 · have:=z7k List.length c.frn;simp at this;simp[jt,this]
theorem Inv.track{p:Addr}{ys:List V}{its:List Value}{n:Nat}(I:Inv X pins σ H s)(hn:H p=none)(ho:s.heap.get? p=some { cls:=.type "list",data:=.seq its.toArray n })(r:Vals ys its)(hz:ys.length<=sizeLine)
   (h1:p∈X.ex\/X.s₀.heap.objs.size<=p) (hL:p≠X.env.locals) (h2:∀x c,X.env.cells.lookup x=some c->c≠p) (h3:∀q∈X.pn++pins,q.1≠p):Inv X pins σ (upd H p (.lst ys)) s:=by
 refine I.step (g':=s.gens) (d':=s.drawn) (h':=s.heap) (t':=s.toks) (ch:=[p]) (fun b hb=>?_) (fun b o _ _ _ e _=>e) (fun b o _ _ _ e _=>⟨o.slots,e⟩) (fun b o hc e n=>?_) (fun b o _ e=>⟨o,e⟩) (fun b xs e=>?_) (fun b o u e=>?_) (fun b ps e=>⟨#[],?_⟩) (fun _ hm=>hm) (fun b u e=>?_) I.bare
 · rw[z6a.mp hb];exact⟨h1,hL,h2,h3⟩
 · rw[z0 (fun z=>hc (by simp[z]))];exact n
 · rw[z0 (qo e hn)];exact e
 · rw[z0 (qo e hn)];exact e
 · rw[z0 (qo e hn),e];simp
 · by_cases hb:b=p
   · subst hb;rw[qg]at e;cases e;exact⟨hz,its,n,r,ho⟩
   · rw[z0 hb]at e;exact(I.hok b u e).stay (fun _ _ _ q=>q) (fun c q=>by rw[z0 (qo q hn)];exact q) fun c xs q=>by rw[z0 (qo q hn)];exact q
theorem zh7{P:Program}{w:World}{H:Hp}{h h':Heap}{c:Addr}(hok:HOk P w H h)(hs:Heap.SameBut c h h')(hn:H c=none):HOk P w H h':=fun b ob e=>by
 refine(hok b ob e).stay (fun d o hd q=>(hs.2 d ?_).trans q) (fun _ q=>q) fun _ _ q=>q;rintro rfl;rcases hd with rfl | hd
 · rw[hn]at e;cases e
 · rw[hn]at hd;cases hd
end
def IB(i:Int):Prop:=i.natAbs<2^4096
instance (i:Int):Decidable (IB i):=inferInstanceAs (Decidable (_<_))
def qa:D->D->Option D
 | .int i,.int j=>some (.int (i+j))
 | .str x,.str y=>if x.length+y.length<=sizeLine then some (.str (x++y))else none
 | .lst a,.lst b=>if a.length+b.length<=sizeLine then some (.lst (a++b))else none
 | .tup a,.tup b=>if a.length+b.length<=sizeLine then some (.tup (a++b))else none
 |_,_=>none
def opI(g:Int->Int->Option Int):D->D->Option D
 | .int i,.int j=>(g i j).map D.int
 |_,_=>none
def opIB(g:Int->Int->Bool):D->D->Option D
 | .int i,.int j=>some (.bl (g i j))
 |_,_=>none
def z1p(i j:Int):Option Int:=if(-(2^64)<i/\i<2^64)\/(-(2^64)<j/\j<2^64)\/(IB i/\IB j)then some (i*j)else none
def z3q(i j:Int):Option Int:=if 0<j/\j<1073741824 then some (i/j)else none
def z22(i j:Int):Option Int:=if 0<j then some (i%j)else none
def z1m(i j:Int):Option Int:=if 0<=j/\j<=1000000/\i.natAbs<2^64 then some (i^j.toNat)else none
def y7:D->D->Option D:=opI fun i j=>some (i-j)
def j6:D->D->Option D:=opI z1p
def yb:D->D->Option D:=opI z3q
def q9:D->D->Option D:=opI z22
def zrg:D->D->Option D:=opI z1m
def zb8:D->D->Option D:=opIB fun i j=>decide (i<j)
def znz:D->D->Option D:=opIB fun i j=>decide (i<=j)
def zd6:D->D->Option D:=opIB fun i j=>decide (j<i)
def ztj:D->D->Option D:=opIB fun i j=>decide (j<=i)
def zom:D->Bool
 | .non=>true
 |_=>false
def zf9:D->D->Option D
 |d,.non=>some (.bl (zom d))
 | .bl a,.bl b=>some (.bl (a==b))
 |_,_=>none
def ka:D->D->Option D
 |d,.non=>some (.bl (!zom d))
 | .bl a,.bl b=>some (.bl (a != b))
 |_,_=>none
def qj(S:Sto):D->D->Option D
 | .lst ds,.int i=>atI ds i
 | .tup ds,.int i=>atI ds i
 | .str z,.int i=>if z.length<=sizeLine then (atI z.cps.toList i).map fun c=>.str ⟨#[c]⟩else none
 | .obj a,.int i=>(match S[a]? with
   |some (.lst ds)=>atI ds i
   |_=>none)
 |_,_=>none
section
variable {X:Cx}{K:zFr}{mg:zMg}
theorem Rep.refI{ρ H i v}(h:Rep K mg ρ H (.int i) v):v=.int i:=h
theorem Rep.refS{ρ H i v}(h:Rep K mg ρ H (.str i) v):v=.str i:=h
theorem Rep.refT{ρ H ds v}(h:Rep K mg ρ H (.tup ds) v):∃p vs,v=.ref p/\TupAt K ρ H p vs/\RepL K mg ρ H ds vs:=by unfold Rep at h;exact h
theorem Rep.refL{ρ H ds v}(h:Rep K mg ρ H (.lst ds) v):∃p vs,v=.ref p/\LstAt K ρ H p vs/\RepL K mg ρ H ds vs:=by unfold Rep at h;exact h
def zu9(K:zFr):R2:=fun x y H Q=>∃l b xs zs,x=.ref l/\y=.ref b/\SqL K H l xs/\SqL K H b zs/\xs.length+zs.length<=sizeLine/\∀p,H p=none->Q (.ref p) (upd H p (.lst (xs++zs)))
theorem op_catL:OpR X (binaryOp .Add) (zu9 X.K):=by
 intro pins s σ H x y v u Q I rx ry h;obtain⟨l,b,xs,zs,rfl,rfl,hH,hB,hz,q⟩:=h;cases rx;cases ry;obtain⟨its,r,pl,_⟩:=I.list hH;obtain⟨its2,r2,pl2,_⟩:=I.list hB;obtain⟨⟨cls,dd,data,sl⟩,ho,hc,n,hd⟩:=pl.isList;obtain⟨⟨cls2,dd2,data2,sl2⟩,ho2,hc2,n2,hd2⟩:=pl2.isList;simp only at hc hd hc2 hd2;subst hc hd hc2 hd2;have e:its.toArray++its2.toArray=(its++its2).toArray:=by simp
 have h1:=r.length;have h2:=r2.length;refine qbd ⟨_,ho,rfl⟩ ⟨_,ho2,rfl⟩ noFill_list_add seq_list_add PySem.F.slot_list_add PySem.F.entry_list_add (PySem.F.args_list_add_2 _ _) (list_addW l b its.toArray its2.toArray n n2 dd dd2 sl sl2 (by simp only[z6d];omega)) ⟨ho,ho2,?_⟩;rw[e];exact⟨.ref _,_,I.lnew (t':=s.toks) (r.append r2) (by rw[z5n];omega),rfl,q _ I.fresh⟩
def znh(K:zFr):R2:=fun x y H Q=>∃a b ys,x=.ref a/\y=.ref b/\SqT K H a []/\SqT K H b ys/\Q (.ref b) H
theorem zjx:OpR X (binaryOp .Add) (znh X.K):=by
 intro pins s σ H x y v u Q I rx ry h;obtain⟨a,b,ys,rfl,rfl,ha,hb,q⟩:=h;cases rx;cases ry;obtain⟨its,r1,p1,_⟩:=I.tuple ha;obtain⟨its2,r2,p2,_⟩:=I.tuple hb;cases r1;obtain⟨⟨cls,dd,data,sl⟩,ho,hc,n,hd⟩:=id p1;obtain⟨⟨cls2,dd2,data2,sl2⟩,ho2,hc2,n2,hd2⟩:=id p2;simp only at hc hd hc2 hd2;subst hc hd hc2 hd2;exact qbd ⟨_,ho,rfl⟩ ⟨_,ho2,rfl⟩ noFill_tuple_add seq_tuple_add z9y z9r (z9m _ _)
   (tuple_addW0 a b _ _ n n2 dd dd2 sl sl2 rfl) ⟨ho,ho2,⟨.ref b,H,I,rfl,q⟩⟩
theorem zmz:zga K mg (fun x y H Q=>rI0 (fun i j=>.int (i+j)) x y H Q\/(∃i j,x=.str i/\y=.str j/\i.length+j.length<=sizeLine/\Q (.str (i++j)) H)\/zu9 K x y H Q\/zu8 K x y H Q\/znh K x y H Q) (fun _=>qa):=by
 intro ρ H S x y dx dy d Q hS rx ry e k;replace e:qa dx dy=some d:=e;unfold qa at e;split at e
 · rename_i i j;cases e;rw[rx.refI,ry.refI];exact .inl ⟨i,j,rfl,rfl,k _ H (Ext.refl _ _) hS rfl⟩
 · rename_i i j;split at e
   · rename_i hl;cases e;rw[rx.refS,ry.refS];exact .inr (.inl ⟨i,j,rfl,rfl,hl,k _ H (Ext.refl _ _) hS rfl⟩)
   · cases e
 · rename_i a b;split at e
   · rename_i hl;cases e;obtain⟨p,vs,rfl,t1,r1⟩:=rx.refL;obtain⟨q,us,rfl,t2,r2⟩:=ry.refL;refine .inr (.inr (.inl ⟨p,q,vs,us,rfl,rfl,t1.sq,t2.sq,by rw[<-r1.length,<-r2.length];exact hl,fun z hz=>?_⟩));exact k _ _ (jx hS _ hz) (hS.new _ hz) (Rep.lst (s:=hS) hz (r1.append r2))
   · cases e
 · rename_i a b;split at e
   · rename_i hl;cases e;obtain⟨p,vs,rfl,t1,r1⟩:=rx.refT;obtain⟨q,us,rfl,t2,r2⟩:=ry.refT;cases a with
     | nil=>
       have:=r1.length;cases vs with
       |nil=>exact .inr (.inr (.inr (.inr ⟨p,q,us,rfl,rfl,t1.sq,t2.sq,k _ H (Ext.refl _ _) hS ry⟩)))
       |cons _ _=>simp at this
     | cons a0 a=>
       refine .inr (.inr (.inr (.inl ⟨p,q,vs,us,rfl,rfl,t1.sq,t2.sq,?_,by rw[<-r1.length,<-r2.length];exact hl,fun z=>?_,fun z w hw=>?_⟩)))
       · intro z;have:=r1.length;subst z;simp at this
       · have:=r2.length;subst z;cases b with
         |nil=>rw[z6e]at k;exact k _ H (Ext.refl _ _) hS rx
         |cons _ _=>simp at this
       · exact k _ _ (jx hS _ hw) (hS.new _ hw) (Rep.tup (s:=hS) hw (r1.append r2))
   · cases e
 · cases e
theorem qq{a b:Expr}{f g:E}{pos:Pos}(ha:FE X a f)(hb:FE X b g):FE X (.BinOp a .Add b pos) (e2 qa f g) :=
 zdz (op_add.or (op_add_str.or (op_catL.or (op_catT.or zjx)))) zmz ha hb
theorem zqu{C:Int->Int->Prop}{gV:Int->Int->Int}{g:Int->Int->Option Int}(h:∀i j z,g i j=some z->C i j/\z=gV i j):zga K mg (rI C fun i j=>.int (gV i j)) (fun _=>opI g):=by
 intro ρ H S x y dx dy d Q hS rx ry e k;replace e:opI g dx dy=some d:=e;unfold opI at e;split at e
 · rename_i i j;obtain⟨z,e1,e⟩:=zas e;cases e;obtain⟨hc,rfl⟩:=h i j z e1;rw[rx.refI,ry.refI];exact⟨i,j,rfl,rfl,hc,k _ H (Ext.refl _ _) hS rfl⟩
 · cases e
theorem zx8{gV:Int->Int->Int}:zga K mg (rI0 fun i j=>.int (gV i j)) (fun _=>opI fun i j=>some (gV i j)):=by
 intro ρ H S x y dx dy d Q hS rx ry e k;replace e:opI _ dx dy=some d:=e;unfold opI at e;split at e
 · rename_i i j;cases e;rw[rx.refI,ry.refI];exact⟨i,j,rfl,rfl,k _ H (Ext.refl _ _) hS rfl⟩
 · cases e
theorem zb6{g:Int->Int->Bool}:zga K mg (rI0 fun i j=>.bl (g i j)) (fun _=>opIB g):=by
 intro ρ H S x y dx dy d Q hS rx ry e k;replace e:opIB g dx dy=some d:=e;unfold opIB at e;split at e
 · rename_i i j;cases e;rw[rx.refI,ry.refI];exact⟨i,j,rfl,rfl,k _ H (Ext.refl _ _) hS rfl⟩
 · cases e
variable {a b:Expr}{f g:E}{pos:Pos}
theorem zbv(ha:FE X a f)(hb:FE X b g):FE X (.BinOp a .Sub b pos) (e2 y7 f g):=zdz zza zx8 ha hb
theorem zp6{i:Int}(h:IB i):Builtin.Int.intBits i<=2^20:=by
 unfold IB at h;unfold Builtin.Int.intBits;have:i.natAbs.log2<4096:=by
   by_cases h0:i.natAbs=0
   · rw[h0];decide
   · exact(Nat.log2_lt h0).mpr h
 split<;>omega
theorem zvs:OpR X (binaryOp .Mult) (rI (fun i j=>CMul i j\/(IB i/\IB j)) fun i j=>.int (i*j)) :=
 L2.opI fun i j _ _ _ _ _ hc q=>mul_int q (by
   rcases hc with hc | ⟨h1,h2⟩
   · exact hc.ok
   · exact IntMulOk.of_bits (zp6 h1) (zp6 h2))
theorem zab(ha:FE X a f)(hb:FE X b g):FE X (.BinOp a .Mult b pos) (e2 j6 f g):=zdz zvs (zqu fun i j z e=>by
 unfold z1p at e;split at e
 · rename_i h;cases e;refine⟨?_,rfl⟩;rcases h with h | h | h
   · exact .inl (.inl h)
   · exact .inl (.inr h)
   · exact .inr h
 · cases e) ha hb
theorem zdy(ha:FE X a f)(hb:FE X b g):FE X (.BinOp a .FloorDiv b pos) (e2 yb f g):=zdz zvv (zqu fun i j z e=>by
 unfold z3q at e;split at e
 · rename_i h;cases e;exact⟨h,rfl⟩
 · cases e) ha hb
theorem xq(ha:FE X a f)(hb:FE X b g):FE X (.BinOp a .Mod b pos) (e2 q9 f g):=zdz zzd (zqu fun i j z e=>by
 unfold z22 at e;split at e
 · rename_i h;cases e;exact⟨h,rfl⟩
 · cases e) ha hb
theorem zz8(ha:FE X a f)(hb:FE X b g):FE X (.BinOp a .Pow b pos) (e2 zrg f g):=zdz zzb (zqu fun i j z e=>by
 unfold z1m at e;split at e
 · rename_i h;cases e;exact⟨h,rfl⟩
 · cases e) ha hb
theorem z0b(ha:FE X a f)(hb:FE X b g)(hm:behindInMarks .Lt b=false:=by exact y8 _):FE X (.Compare a [.Lt] [b] pos) (e2 zb8 f g):=zo6 zvt zb6 ha hb hm
theorem z3j(ha:FE X a f)(hb:FE X b g)(hm:behindInMarks .LtE b=false:=by exact y8 _):FE X (.Compare a [.LtE] [b] pos) (e2 znz f g):=zo6 zvu zb6 ha hb hm
theorem zls(ha:FE X a f)(hb:FE X b g)(hm:behindInMarks .Lt b=false:=by exact y8 _):FB X (.Compare a [.Lt] [b] pos) (bE (e2 zb8 f g)):=zaz zvt zb6 ha hb hm
theorem z3m(ha:FE X a f)(hb:FE X b g)(hm:behindInMarks .LtE b=false:=by exact y8 _):FB X (.Compare a [.LtE] [b] pos) (bE (e2 znz f g)):=zaz zvu zb6 ha hb hm
theorem zg9(ha:FE X a f)(hb:FE X b g)(hm:behindInMarks .Gt b=false:=by exact y8 _):FB X (.Compare a [.Gt] [b] pos) (bE (e2 zd6 f g)):=zaz z2z zb6 ha hb hm
theorem z0j(ha:FE X a f)(hb:FE X b g)(hm:behindInMarks .GtE b=false:=by exact y8 _):FB X (.Compare a [.GtE] [b] pos) (bE (e2 ztj f g)):=zaz z20 zb6 ha hb hm
theorem zj9{ρ H d v}(h:Rep K mg ρ H d v):zom d=decide (v=.non):=by
 cases d with
 |non=>rw[show v=.non from h];rfl
 |bl b=>rw[show v=.bl b from h];rfl
 |int b=>rw[show v=.int b from h];rfl
 |str b=>rw[show v=.str b from h];rfl
 |fn x=>unfold Rep at h;obtain⟨p,rfl,_⟩:=h;rfl
 |ty b=>rw[show v=.ty b from h];rfl
 |tup x=>obtain⟨p,_,rfl,_⟩:=h.refT;rfl
 |lst x=>obtain⟨p,_,rfl,_⟩:=h.refL;rfl
 |obj x=>unfold Rep at h;obtain⟨p,rfl,_⟩:=h;rfl
 |lam x=>unfold Rep at h;obtain⟨p,rfl,_⟩:=h;rfl
 |clo x y=>unfold Rep at h;obtain⟨p,_,rfl,_⟩:=h;rfl
theorem zze:OpR X (compareOp .Is) (fun x y H Q=>∃i j,x=.bl i/\y=.bl j/\Q (.bl (i==j)) H):=by intro pins s σ H x y v u Q I rx ry h;obtain⟨i,j,rfl,rfl,q⟩:=h;cases rx;cases ry;exact is_bool ⟨.bl _,H,I,rfl,q⟩
theorem zny:OpR X (compareOp .IsNot) (fun x y H Q=>∃i j,x=.bl i/\y=.bl j/\Q (.bl (i != j)) H):=by intro pins s σ H x y v u Q I rx ry h;obtain⟨i,j,rfl,rfl,q⟩:=h;cases rx;cases ry;exact isnot_bool ⟨.bl _,H,I,rfl,q⟩
theorem zx7:zga K mg (fun x y H Q=>(y=.non/\Q (.bl (decide (x=.non))) H)\/(∃i j,x=.bl i/\y=.bl j/\Q (.bl (i==j)) H)) (fun _=>zf9):=by
 intro ρ H S x y dx dy d Q hS rx ry e k;replace e:zf9 dx dy=some d:=e;unfold zf9 at e;split at e
 · cases e;rw[zj9 rx]at k;exact .inl ⟨ry,k _ H (Ext.refl _ _) hS rfl⟩
 · rename_i i j _;cases e;exact .inr ⟨_,_,rx,ry,k _ H (Ext.refl _ _) hS rfl⟩
 · cases e
theorem zmx:zga K mg (fun x y H Q=>(y=.non/\Q (.bl (!decide (x=.non))) H)\/(∃i j,x=.bl i/\y=.bl j/\Q (.bl (i != j)) H)) (fun _=>ka):=by
 intro ρ H S x y dx dy d Q hS rx ry e k;replace e:ka dx dy=some d:=e;unfold ka at e;split at e
 · cases e;rw[zj9 rx]at k;exact .inl ⟨ry,k _ H (Ext.refl _ _) hS rfl⟩
 · rename_i i j _;cases e;exact .inr ⟨_,_,rx,ry,k _ H (Ext.refl _ _) hS rfl⟩
 · cases e
theorem zft(ha:FE X a f)(hb:FE X b g)(hm:behindInMarks .Is b=false:=by exact y8 _):FB X (.Compare a [.Is] [b] pos) (bE (e2 zf9 f g)):=zaz (op_isN.or zze) zx7 ha hb hm
theorem zcy(ha:FE X a f)(hb:FE X b g)(hm:behindInMarks .IsNot b=false:=by exact y8 _):FB X (.Compare a [.IsNot] [b] pos) (bE (e2 ka f g)):=zaz (op_notN.or zny) zmx ha hb hm
theorem zi7{ρ H ds vs i d}(r:RepL K mg ρ H ds vs)(h:atI ds i=some d):∃v,atI vs i=some v/\Rep K mg ρ H d v:=by unfold atI at h ⊢;rw[<-r.length];obtain⟨j,h1,h2⟩:=zw h;rw[h1];exact r.get h2
theorem zx6:zga K mg (rIx K) qj:=by
 intro ρ H S x y dx dy d Q hS rx ry e k;unfold qj at e;split at e
 · rename_i ds i;obtain⟨p,vs,rfl,t,r⟩:=rx.refL;obtain⟨v,h1,h2⟩:=zi7 r e;exact .inl ⟨p,vs,i,v,rfl,ry.refI,t.sq,h1,k _ H (Ext.refl _ _) hS h2⟩
 · rename_i ds i;obtain⟨p,vs,rfl,t,r⟩:=rx.refT;obtain⟨v,h1,h2⟩:=zi7 r e;exact .inr (.inl ⟨p,vs,i,v,rfl,ry.refI,t.sq,h1,k _ H (Ext.refl _ _) hS h2⟩)
 · rename_i z i;split at e
   · rename_i hz;obtain⟨c,h1,e⟩:=zas e;cases e;exact .inr (.inr ⟨z,i,c,rx.refS,ry.refI,hz,h1,k _ H (Ext.refl _ _) hS rfl⟩)
   · cases e
 · rename_i o i;split at e
   · rename_i ds hd;unfold Rep at rx;obtain⟨p,rfl,hp⟩:=rx;obtain⟨vs,h1,r⟩:=hS.ob o _ p hd hp;obtain⟨v,h3,h2⟩:=zi7 r e;exact .inl ⟨p,vs,i,v,rfl,ry.refI,SqL.of h1,h3,k _ H (Ext.refl _ _) hS h2⟩
   · cases e
 · cases e
theorem zx(ha:FE X a f)(hb:FE X b g)(hs:zqb b:=by exact fun _ _=>rfl):FE X (.Subscript a b pos) (e2s qj f g):=qz (z2v zzt ha hb hs) fun _ _ _ h=>t2 zx6 h
end
def eqL(f:D->D->Option Bool):List D->List D->Option Bool
 |x::xs,y::ys=>(f x y).bind fun c=>(eqL f xs ys).map fun r=>c&&r
 | [],[]=>some true
 |_,_=>some false
def zci:D->Option V
 | .non=>some .non
 | .bl b=>some (.bl b)
 | .int i=>some (.int i)
 | .str x=>some (.str x)
 |_=>none
def eqF(a b:D):Option Bool:=match zci a,zci b with
 |some x,some y=>some (eqV x y)
 |_,_=>none
def zol:D->Bool
 | .tup _=>true
 | .lst _=>true
 |_=>false
def eqN:Nat->D->D->Option Bool
 |0,a,b=>eqF a b
 | n+1,a,b=>match a,b with
   | .tup xs,.tup ys=>eqL (eqN n) xs ys
   | .lst xs,.lst ys=>if xs.length=ys.length then eqL (eqN n) xs ys else some false
   | .tup _,.lst _=>some false
   | .lst _,.tup _=>some false
   | a,b=>if zol a=true then (if(zci b).isSome=true then some false else none)
     else if zol b=true then (if(zci a).isSome=true then some false else none)
     else eqF a b
theorem zcz{a b:D}{k:Bool}(h:eqF a b=some k):∃x y,zci a=some x/\zci b=some y/\k=eqV x y:=by
 unfold eqF at h;split at h
 · rename_i x y e1 e2;exact⟨x,y,e1,e2,(z62 h).symm⟩
 · cases h
section
variable {X:Cx}{pins:zAO}{σ:L2.St}{H:Hp}{s:Shared}{ρ:List Addr}{mg:zMg}
theorem jr{K}{d:D}{x v:V}(e:zci d=some x)(r:Rep K mg ρ H d v):v=x/\zbt x=true:=by
 cases d with
 |non=>cases e;exact⟨r,rfl⟩
 |bl b=>cases e;exact⟨r,rfl⟩
 |int i=>cases e;exact⟨r,rfl⟩
 |str i=>cases e;exact⟨r,rfl⟩
 |_=>cases e
theorem zpf{f:D->D->Option Bool}:∀{xs ys:List D}{k:Bool},eqL f xs ys=some k->xs.length≠ys.length->k=false
 | [],[],_,_,h=>absurd rfl h
 | [],_::_,_,h,_=>by cases h;rfl
 |_::_,[],_,h,_=>by cases h;rfl
 | x::xs,y::ys,k,h,n=>by obtain⟨c,_,h⟩:=zw h;obtain⟨r,h2,h⟩:=zas h;have:=zpf h2 (fun z=>n (by simp[z]));subst this h;simp
theorem zt1{f:D->D->Option Bool}:∀{xs ys:List D}{k:Bool},eqL f xs ys=some k->∀(j:Nat) (x y:D),xs[j]? = some x->ys[j]? = some y->∃c,f x y=some c
 | x::xs,y::ys,k,h,0,_,_,e1,e2=>by obtain⟨c,h1,h⟩:=zw h;simp at e1 e2;subst e1 e2;exact⟨c,h1⟩
 | x::xs,y::ys,k,h,j+1,_,_,e1,e2=>by obtain⟨c,h1,h⟩:=zw h;obtain⟨r,h2,h⟩:=zas h;exact zt1 h2 j _ _ (by simpa using e1) (by simpa using e2)
 | [],_,_,_,_,_,_,e1,_=>by simp at e1
 |_::_,[],_,_,_,_,_,_,e2=>by simp at e2
def zma(f:D->D->Option Bool)(xs ys:List D)(j:Nat):Bool:=match xs[j]?,ys[j]? with
 |some x,some y=>(f x y).getD false
 |_,_=>false
theorem zix{f:D->D->Option Bool}:∀{xs ys:List D}{k:Bool},eqL f xs ys=some k->xs.length=ys.length->k=(List.range xs.length).all (zma f xs ys)
 | [],[],_,h,_=>by cases h;rfl
 | x::xs,y::ys,k,h,e=>by
   obtain⟨c,h1,h⟩:=zw h;obtain⟨r,h2,h⟩:=zas h;subst h;have ih:=zix h2 (by simpa using e);rw[List.length_cons,List.range_succ_eq_map,List.all_cons,List.all_map];have e0:zma f (x::xs) (y::ys) 0=c:=by simp[zma,h1]
   have e1:((zma f (x::xs) (y::ys))∘Nat.succ)=zma f xs ys:=by funext j;simp[zma]
   rw[e0,e1,<-ih]
 | [],_::_,_,_,e=>by simp at e
 |_::_,[],_,_,e=>by simp at e
theorem zr7{f:D->D->Option Bool}{xs ys:List D}{k:Bool}(h:eqL f xs ys=some k):k=((List.range (min xs.length ys.length)).all (zma f xs ys)&&xs.length==ys.length):=by
 by_cases e:xs.length=ys.length
 · rw[zix h e,e];simp
 · rw[zpf h e];have:(xs.length==ys.length)=false:=by simpa using e
   rw[this];simp
theorem zwr:∀(n:Nat) {d1 d2:D}{v:V}{k:Bool},Inv X pins σ H s->eqN n d1 d2=some k->Rep X.K mg ρ H d1 v->Rep X.K mg ρ H d2 v->k=true:=by
 intro n
 induction n with
 | zero=>
   intro d1 d2 v k I h r1 r2;obtain⟨x,y,e1,e2,rfl⟩:=zcz h;obtain⟨rfl,f1⟩:=jr e1 r1;obtain⟨rfl,f2⟩:=jr e2 r2;cases v<;>first | (cases f1;done) | (simp[eqV];done)
 | succ n ih=>
   intro d1 d2 v k I h r1 r2;have lst:∀{xs ys:List D}{vs:List V}{k:Bool},eqL (eqN n) xs ys=some k->RepL X.K mg ρ H xs vs->RepL X.K mg ρ H ys vs->k=true:=by
     intro xs
     induction xs with
     | nil=>
       intro ys vs k h q1 q2;have l1:=q1.length;have l2:=q2.length;cases ys with
       |nil=>cases h;rfl
       |cons _ _=>rw[<-l1]at l2;simp at l2
     | cons x xs ihx=>
       intro ys vs k h q1 q2;cases ys with
       | nil=>
         have l1:=q1.length;have l2:=q2.length;rw[<-l2]at l1;simp at l1
       | cons y ys=>
         obtain⟨c,h1,h⟩:=zw h;obtain⟨r,h2,h⟩:=zas h;unfold RepL at q1 q2;obtain⟨v1,r1,rfl,a1,b1⟩:=q1;obtain⟨v2,r2,e,a2,b2⟩:=q2;cases e;rw[<-h,ih I h1 a1 a2,ihx h2 b1 b2];rfl
   unfold eqN at h;split at h
   · rename_i xs ys;obtain⟨p,vs,rfl,t1,q1⟩:=r1.refT;obtain⟨p',vs',e,t2,q2⟩:=r2.refT;cases e;have:=I.tuple_inj t1.sq t2.sq;subst this;exact lst h q1 q2
   · rename_i xs ys;obtain⟨p,vs,rfl,t1,q1⟩:=r1.refL;obtain⟨p',vs',e,t2,q2⟩:=r2.refL;cases e;have:=I.list_inj t1.sq t2.sq;subst this;rw[z55 (by rw[q1.length,q2.length])]at h;exact lst h q1 q2
   · rename_i xs ys;obtain⟨p,vs,rfl,t1,q1⟩:=r1.refT;obtain⟨p',vs',e,t2,q2⟩:=r2.refL;cases e;obtain⟨_,_,⟨o,e1,c1,_⟩,_⟩:=I.tuple t1.sq;obtain⟨_,_,⟨o',_,e2,c2,_⟩,_⟩:=I.list t2.sq;rw[e1]at e2;cases e2;rw[c1]at c2;exact absurd (Value.type.inj c2) (by decide)
   · rename_i xs ys;obtain⟨p,vs,rfl,t1,q1⟩:=r1.refL;obtain⟨p',vs',e,t2,q2⟩:=r2.refT;cases e;obtain⟨_,_,⟨o,e1,c1,_⟩,_⟩:=I.tuple t2.sq;obtain⟨_,_,⟨o',_,e2,c2,_⟩,_⟩:=I.list t1.sq;rw[e1]at e2;cases e2;rw[c1]at c2;exact absurd (Value.type.inj c2) (by decide)
   · split at h
     · rename_i hs;split at h
       · rename_i hb;obtain⟨y,ey⟩:=z7z.mp hb;obtain⟨rfl,f2⟩:=jr ey r2;cases d1 with
         |tup _=>obtain⟨p,_,rfl,_⟩:=r1.refT;cases f2
         |lst _=>obtain⟨p,_,rfl,_⟩:=r1.refL;cases f2
         |_=>cases hs
       · cases h
     · split at h
       · rename_i hs;split at h
         · rename_i hb;obtain⟨y,ey⟩:=z7z.mp hb;obtain⟨rfl,f2⟩:=jr ey r1;cases d2 with
           |tup _=>obtain⟨p,_,rfl,_⟩:=r2.refT;cases f2
           |lst _=>obtain⟨p,_,rfl,_⟩:=r2.refL;cases f2
           |_=>cases hs
         · cases h
       · obtain⟨x,y,e1,e2,rfl⟩:=zcz h;obtain⟨rfl,f1⟩:=jr e1 r1;obtain⟨rfl,f2⟩:=jr e2 r2;cases v<;>first | (cases f1;done) | (simp[eqV];done)
theorem znd{A:Around}{x y:V}{u w:Value}(ru:RelV x u)(rw':RelV y w)(fx:zbt x=true)(fy:zbt y=true):SeqAt.RcAt A s u w (eqV x y):=by
 cases x with
 | non=>
   cases ru;cases y with
   |non=>cases rw';exact SeqAt.RcAt.none_none
   |bl b=>cases rw';exact SeqAt.RcAt.none_bool b
   |int b=>obtain⟨t,rfl⟩:=rw';exact SeqAt.RcAt.none_int b t
   |str b=>obtain⟨t,rfl⟩:=rw';exact SeqAt.RcAt.none_str b t
   |_=>cases fy
 | bl a=>
   cases ru;cases y with
   |non=>cases rw';exact SeqAt.RcAt.bool_none a
   |bl b=>cases rw';exact SeqAt.RcAt.bool_bool a b
   |int b=>obtain⟨t,rfl⟩:=rw';exact SeqAt.RcAt.bool_int a b t
   |str b=>obtain⟨t,rfl⟩:=rw';exact SeqAt.RcAt.bool_str a b t
   |_=>cases fy
 | int a=>
   obtain⟨t',rfl⟩:=ru;cases y with
   |non=>cases rw';exact SeqAt.RcAt.int_none a t'
   |bl b=>cases rw';exact SeqAt.RcAt.int_bool a t' b
   |int b=>obtain⟨t,rfl⟩:=rw';exact SeqAt.RcAt.int_int a t' b t
   |str b=>obtain⟨t,rfl⟩:=rw';exact SeqAt.RcAt.int_str a t' b t
   |_=>cases fy
 | str a=>
   obtain⟨t',rfl⟩:=ru;cases y with
   |non=>cases rw';exact SeqAt.RcAt.str_none a t'
   |bl b=>cases rw';exact SeqAt.RcAt.str_bool a t' b
   |int b=>obtain⟨t,rfl⟩:=rw';exact SeqAt.RcAt.str_int a t' b t
   |str b=>obtain⟨t,rfl⟩:=rw';exact SeqAt.RcAt.str_str a t' b t
   |_=>cases fy
 |_=>cases fx
theorem zgn{A:Around}{x y:V}{u w:Value}(ru:RelV x u)(rw':RelV y w)(fx:zbt x=true)(fy:zbt y=true):SeqAt.RcNeAt A s u w (!eqV x y):=by
 cases x with
 | non=>
   cases ru;cases y with
   |non=>cases rw';exact SeqAt.RcNeAt.none_none
   |bl b=>cases rw';exact SeqAt.RcNeAt.none_bool b
   |int b=>obtain⟨t,rfl⟩:=rw';exact SeqAt.RcNeAt.none_int b t
   |str b=>obtain⟨t,rfl⟩:=rw';exact SeqAt.RcNeAt.none_str b t
   |_=>cases fy
 | bl a=>
   cases ru;cases y with
   |non=>cases rw';exact SeqAt.RcNeAt.bool_none a
   |bl b=>cases rw';exact SeqAt.RcNeAt.bool_bool a b
   |int b=>obtain⟨t,rfl⟩:=rw';exact SeqAt.RcNeAt.bool_int a b t
   |str b=>obtain⟨t,rfl⟩:=rw';exact SeqAt.RcNeAt.bool_str a b t
   |_=>cases fy
 | int a=>
   obtain⟨t',rfl⟩:=ru;cases y with
   |non=>cases rw';exact SeqAt.RcNeAt.int_none a t'
   |bl b=>cases rw';exact SeqAt.RcNeAt.int_bool a t' b
   |int b=>obtain⟨t,rfl⟩:=rw';exact SeqAt.RcNeAt.int_int a t' b t
   |str b=>obtain⟨t,rfl⟩:=rw';exact SeqAt.RcNeAt.int_str a t' b t
   |_=>cases fy
 | str a=>
   obtain⟨t',rfl⟩:=ru;cases y with
   |non=>cases rw';exact SeqAt.RcNeAt.str_none a t'
   |bl b=>cases rw';exact SeqAt.RcNeAt.str_bool a t' b
   |int b=>obtain⟨t,rfl⟩:=rw';exact SeqAt.RcNeAt.str_int a t' b t
   |str b=>obtain⟨t,rfl⟩:=rw';exact SeqAt.RcNeAt.str_str a t' b t
   |_=>cases fy
 |_=>cases fx
theorem zj8{A:Around}{n:Nat}{xs ys:List D}{vs us:List V}{its its2:List Value}(hq:∀{d1 d2:D}{v w:V}{a b:Value}{k:Bool},eqN n d1 d2=some k->Rep X.K mg ρ H d1 v->Rep X.K mg ρ H d2 w->RelV v a->RelV w b->SeqAt.EqAt A s a b k){k:Bool}(h:eqL (eqN n) xs ys=some k)
   (r1:RepL X.K mg ρ H xs vs) (r2:RepL X.K mg ρ H ys us) (q1:Vals vs its) (q2:Vals us its2) :
   ∀j (h1:j<its.toArray.size) (h2:j<its2.toArray.size),SeqAt.EqAt A s its.toArray[j] its2.toArray[j] (zma (eqN n) xs ys j):=by
 intro j h1 h2;have l1:=r1.length;have l2:=r2.length;have l3:=q1.length;have l4:=q2.length;rw[z6d]at h1 h2;have e1:xs[j]? = some xs[j]:=z5v (by omega);have e2:ys[j]? = some ys[j]:=z5v (by omega);obtain⟨v,ev,rv⟩:=r1.get e1;obtain⟨w,ew,rw'⟩:=r2.get e2;obtain⟨a,ea,ra⟩:=q1.get ev;obtain⟨b,eb,rb⟩:=q2.get ew;obtain⟨c,hc⟩:=zt1 h j _ _ e1 e2;have z1:its.toArray[j]=a:=by rw[z5v h1]at ea;simpa using ea
 have z2:its2.toArray[j]=b:=by rw[z5v h2]at eb;simpa using eb
 have z3:zma (eqN n) xs ys j=c:=by simp[zma,e1,e2,hc]
 rw[z1,z2,z3];exact hq hc rv rw' ra rb
theorem z0m:∀(n:Nat) {A:Around}{d1 d2:D}{v w:V}{a b:Value}{k:Bool},Inv X pins σ H s->A.units+n<cLine->eqN n d1 d2=some k->Rep X.K mg ρ H d1 v->Rep X.K mg ρ H d2 w->RelV v a->RelV w b ->
   SeqAt.RcAt A s a b k/\SeqAt.RcNeAt A s a b (!k)/\SeqAt.EqAt A s a b k:=by
 intro n
 induction n with
 | zero=>
   intro A d1 d2 v w a b k I hu h r1 r2 ra rb;obtain⟨x,y,e1,e2,rfl⟩:=zcz h;obtain⟨rfl,f1⟩:=jr e1 r1;obtain⟨rfl,f2⟩:=jr e2 r2;exact⟨znd ra rb f1 f2,zgn ra rb f1 f2,zpg ra rb f1 f2⟩
 | succ n ih=>
   intro A d1 d2 v w a b k I hu h r1 r2 ra rb;have hs:∀{u:V},Rep X.K mg ρ H d1 u->Rep X.K mg ρ H d2 u->k=true:=fun a b=>zwr (n+1) I h a b;have hin:A.in1.units+n<cLine:=by show A.units+1+n<cLine;omega
   have hu0:A.units<cLine:=by omega
   have same:∀{p q:Addr},v=.ref p->w=.ref q->SeqAt.RcAt A s (.ref p) (.ref q) k->SeqAt.EqAt A s a b k:=by
     intro p q e1 e2 rc;subst e1 e2;cases ra;cases rb;by_cases hpq:p=q
     · subst hpq;rw[hs r1 r2];exact SeqAt.EqAt.same _
     · exact SeqAt.EqAt.of_refs hpq rc
   unfold eqN at h;split at h
   · rename_i xs ys;obtain⟨p,vs,rfl,t1,q1⟩:=r1.refT;obtain⟨p',us,rfl,t2,q2⟩:=r2.refT;cases ra;cases rb;obtain⟨its,z1,pt1,_⟩:=I.tuple t1.sq;obtain⟨its2,z2,pt2,_⟩:=I.tuple t2.sq;have hit:=zj8 (A:=A.in1) (s:=s) (fun e a1 a2 a3 a4=>(ih I hin e a1 a2 a3 a4).2.2) h q1 q2 z1 z2;have l1:=q1.length;have l2:=q2.length;have l3:=z1.length;have l4:=z2.length;have ek:k=((List.range (min its.toArray.size its2.toArray.size)).all (zma (eqN n) xs ys)&&its.toArray.size==its2.toArray.size):=by rw[z6d,z6d,<-l3,<-l4,<-l1,<-l2];exact zr7 h
     have rc:=SeqAt.RcAt.tuples (A:=A) (s:=s) pt1 pt2 hu0 hit;have rn:=SeqAt.RcNeAt.tuples (A:=A) (s:=s) pt1 pt2 hu0 hit;rw[<-ek]at rc;refine⟨rc,?_,same rfl rfl rc⟩;rw[ek];exact rn
   · rename_i xs ys;obtain⟨p,vs,rfl,t1,q1⟩:=r1.refL;obtain⟨p',us,rfl,t2,q2⟩:=r2.refL;cases ra;cases rb;obtain⟨its,z1,pt1,_⟩:=I.list t1.sq;obtain⟨its2,z2,pt2,_⟩:=I.list t2.sq;have l1:=q1.length;have l2:=q2.length;have l3:=z1.length;have l4:=z2.length;split at h
     · rename_i hl;have hit:=zj8 (A:=A.in1) (s:=s) (fun e a1 a2 a3 a4=>(ih I hin e a1 a2 a3 a4).2.2) h q1 q2 z1 z2;have hsz:its.toArray.size=its2.toArray.size:=by rw[z6d,z6d];omega
       have ek:k=(List.range its.toArray.size).all (zma (eqN n) xs ys):=by rw[z6d,<-l3,<-l1];exact zix h hl
       have rc:=SeqAt.RcAt.lists (A:=A) (s:=s) pt1.isList pt2.isList hsz hu0 hit;have rn:=SeqAt.RcNeAt.lists (A:=A) (s:=s) pt1.isList pt2.isList hsz hu0 hit;rw[<-ek]at rc;refine⟨rc,?_,same rfl rfl rc⟩;rw[ek];exact rn
     · rename_i hl;cases h;have hsz:(its.toArray.size != its2.toArray.size)=true:=by rw[z6d,z6d];simp;omega
       have rc:=SeqAt.RcAt.lists_lengths (A:=A) (s:=s) pt1.isList pt2.isList hsz hu0;have rn:=SeqAt.RcNeAt.lists_lengths (A:=A) (s:=s) pt1.isList pt2.isList hsz hu0;exact⟨rc,rn,same rfl rfl rc⟩
   · rename_i xs ys;cases h;obtain⟨p,vs,rfl,t1,q1⟩:=r1.refT;obtain⟨p',us,rfl,t2,q2⟩:=r2.refL;cases ra;cases rb;obtain⟨its,z1,pt1,_⟩:=I.tuple t1.sq;obtain⟨its2,z2,pt2,_⟩:=I.list t2.sq;exact⟨SeqAt.RcAt.tuple_list pt1 pt2.isList hu0,SeqAt.RcNeAt.tuple_list pt1 pt2.isList hu0,SeqAt.EqAt.tuple_list pt1 pt2.isList hu0⟩
   · rename_i xs ys;cases h;obtain⟨p,vs,rfl,t1,q1⟩:=r1.refL;obtain⟨p',us,rfl,t2,q2⟩:=r2.refT;cases ra;cases rb;obtain⟨its,z1,pt1,_⟩:=I.list t1.sq;obtain⟨its2,z2,pt2,_⟩:=I.tuple t2.sq;exact⟨SeqAt.RcAt.list_tuple pt1.isList pt2 hu0,SeqAt.RcNeAt.list_tuple pt1.isList pt2 hu0,SeqAt.EqAt.list_tuple pt1.isList pt2 hu0⟩
   · split at h
     · rename_i hsq;split at h
       · rename_i hb;cases h;obtain⟨y,ey⟩:=z7z.mp hb;obtain⟨rfl,f2⟩:=jr ey r2;cases d1 with
         | tup _=>
           obtain⟨p,vs,rfl,t1,q1⟩:=r1.refT;cases ra;obtain⟨its,z1,pt,_⟩:=I.tuple t1.sq;cases w with
           |non=>cases rb;exact⟨SeqAt.RcAt.tuple_none pt hu0,SeqAt.RcNeAt.tuple_none pt hu0,SeqAt.EqAt.tuple_none pt hu0⟩
           |bl c=>cases rb;exact⟨SeqAt.RcAt.tuple_bool c pt hu0,SeqAt.RcNeAt.tuple_bool c pt hu0,SeqAt.EqAt.tuple_bool c pt hu0⟩
           |int c=>obtain⟨t,rfl⟩:=rb;exact⟨SeqAt.RcAt.tuple_int c t pt hu0,SeqAt.RcNeAt.tuple_int c t pt hu0,SeqAt.EqAt.tuple_int c t pt hu0⟩
           |str c=>obtain⟨t,rfl⟩:=rb;exact⟨SeqAt.RcAt.tuple_str c t pt hu0,SeqAt.RcNeAt.tuple_str c t pt hu0,SeqAt.EqAt.tuple_str c t pt hu0⟩
           |_=>cases f2
         | lst _=>
           obtain⟨p,vs,rfl,t1,q1⟩:=r1.refL;cases ra;obtain⟨its,z1,pl,_⟩:=I.list t1.sq;have pt:=pl.isList;cases w with
           |non=>cases rb;exact⟨SeqAt.RcAt.list_none pt hu0,SeqAt.RcNeAt.list_none pt hu0,SeqAt.EqAt.list_none pt hu0⟩
           |bl c=>cases rb;exact⟨SeqAt.RcAt.list_bool c pt hu0,SeqAt.RcNeAt.list_bool c pt hu0,SeqAt.EqAt.list_bool c pt hu0⟩
           |int c=>obtain⟨t,rfl⟩:=rb;exact⟨SeqAt.RcAt.list_int c t pt hu0,SeqAt.RcNeAt.list_int c t pt hu0,SeqAt.EqAt.list_int c t pt hu0⟩
           |str c=>obtain⟨t,rfl⟩:=rb;exact⟨SeqAt.RcAt.list_str c t pt hu0,SeqAt.RcNeAt.list_str c t pt hu0,SeqAt.EqAt.list_str c t pt hu0⟩
           |_=>cases f2
         |_=>cases hsq
       · cases h
     · split at h
       · rename_i hsq;split at h
         · rename_i hb;cases h;obtain⟨y,ey⟩:=z7z.mp hb;obtain⟨rfl,f2⟩:=jr ey r1;cases d2 with
           | tup _=>
             obtain⟨p,vs,rfl,t1,q1⟩:=r2.refT;cases rb;obtain⟨its,z1,pt,_⟩:=I.tuple t1.sq;cases v with
             |non=>cases ra;exact⟨SeqAt.RcAt.none_tuple pt hu0,SeqAt.RcNeAt.none_tuple pt hu0,SeqAt.EqAt.none_tuple pt hu0⟩
             |bl c=>cases ra;exact⟨SeqAt.RcAt.bool_tuple c pt hu0,SeqAt.RcNeAt.bool_tuple c pt hu0,SeqAt.EqAt.bool_tuple c pt hu0⟩
             |int c=>obtain⟨t,rfl⟩:=ra;exact⟨SeqAt.RcAt.int_tuple c t pt hu0,SeqAt.RcNeAt.int_tuple c t pt hu0,SeqAt.EqAt.int_tuple c t pt hu0⟩
             |str c=>obtain⟨t,rfl⟩:=ra;exact⟨SeqAt.RcAt.str_tuple c t pt hu0,SeqAt.RcNeAt.str_tuple c t pt hu0,SeqAt.EqAt.str_tuple c t pt hu0⟩
             |_=>cases f2
           | lst _=>
             obtain⟨p,vs,rfl,t1,q1⟩:=r2.refL;cases rb;obtain⟨its,z1,pl,_⟩:=I.list t1.sq;have pt:=pl.isList;cases v with
             |non=>cases ra;exact⟨SeqAt.RcAt.none_list pt hu0,SeqAt.RcNeAt.none_list pt hu0,SeqAt.EqAt.none_list pt hu0⟩
             |bl c=>cases ra;exact⟨SeqAt.RcAt.bool_list c pt hu0,SeqAt.RcNeAt.bool_list c pt hu0,SeqAt.EqAt.bool_list c pt hu0⟩
             |int c=>obtain⟨t,rfl⟩:=ra;exact⟨SeqAt.RcAt.int_list c t pt hu0,SeqAt.RcNeAt.int_list c t pt hu0,SeqAt.EqAt.int_list c t pt hu0⟩
             |str c=>obtain⟨t,rfl⟩:=ra;exact⟨SeqAt.RcAt.str_list c t pt hu0,SeqAt.RcNeAt.str_list c t pt hu0,SeqAt.EqAt.str_list c t pt hu0⟩
             |_=>cases f2
           |_=>cases hsq
         · cases h
       · obtain⟨x,y,e1,e2,rfl⟩:=zcz h;obtain⟨rfl,f1⟩:=jr e1 r1;obtain⟨rfl,f2⟩:=jr e2 r2;exact⟨znd ra rb f1 f2,zgn ra rb f1 f2,zpg ra rb f1 f2⟩
end
def zbc(a b:D):Option D:=(eqN 150 a b).map D.bl
def zbz(a b:D):Option D:=(eqN 150 a b).map fun k=>D.bl !k
section
variable {X:Cx}{a b:Expr}{f g:E}{pos:Pos}
def z1l(K:zFr)(mg:zMg)(neg:Bool):R2:=fun x y H Q=>∃(ρ:List Addr) (d1 d2:D) (k:Bool),Rep K mg ρ H d1 x/\Rep K mg ρ H d2 y/\eqN 150 d1 d2=some k/\Q (.bl (if neg then !k else k)) H
theorem zti(hu:X.A.units+150<cLine):OpR X (compareOp .Eq) (z1l X.K X.mg false):=by intro pins s σ H x y v u Q I rx ry h;obtain⟨ρ,d1,d2,k,h1,h2,h3,q⟩:=h;exact(z0m 150 I hu h3 h1 h2 rx ry).1 _ _ _ _ ⟨.bl k,H,I,rfl,q⟩
theorem zzc(hu:X.A.units+150<cLine):OpR X (compareOp .NotEq) (z1l X.K X.mg true):=by intro pins s σ H x y v u Q I rx ry h;obtain⟨ρ,d1,d2,k,h1,h2,h3,q⟩:=h;exact(z0m 150 I hu h3 h1 h2 rx ry).2.1 _ _ _ _ ⟨.bl (!k),H,I,rfl,q⟩
theorem zmy{K mg}:zga K mg (z1l K mg false) (fun _=>zbc):=by intro ρ H S x y dx dy d Q hS rx ry e k;obtain⟨c,e1,e⟩:=zas e;subst e;exact⟨ρ,dx,dy,c,rx,ry,e1,k _ H (Ext.refl _ _) hS rfl⟩
theorem zuv{K mg}:zga K mg (z1l K mg true) (fun _=>zbz):=by intro ρ H S x y dx dy d Q hS rx ry e k;obtain⟨c,e1,e⟩:=zas e;subst e;exact⟨ρ,dx,dy,c,rx,ry,e1,k _ H (Ext.refl _ _) hS rfl⟩
theorem z3k{k:Nat}(hr:Room k X.A)(ha:FE X a f)(hb:FE X b g)(hm:behindInMarks .Eq b=false:=by exact y8 _):FE X (.Compare a [.Eq] [b] pos) (e2 zbc f g):=zo6 (zti (by have:=hr.un;omega)) zmy ha hb hm
theorem zfu{k:Nat}(hr:Room k X.A)(ha:FE X a f)(hb:FE X b g)(hm:behindInMarks .Eq b=false:=by exact y8 _):FB X (.Compare a [.Eq] [b] pos) (bE (e2 zbc f g)):=zaz (zti (by have:=hr.un;omega)) zmy ha hb hm
theorem zg8{k:Nat}(hr:Room k X.A)(ha:FE X a f)(hb:FE X b g)(hm:behindInMarks .NotEq b=false:=by exact y8 _):FB X (.Compare a [.NotEq] [b] pos) (bE (e2 zbz f g)):=zaz (zzc (by have:=hr.un;omega)) zuv ha hb hm
end
def zdj(S:Sto):List D->Option D
 | [.lst ds]=>some (.int ds.length)
 | [.tup ds]=>some (.int ds.length)
 | [.str z]=>if z.length<=sizeLine then some (.int z.length)else none
 | [.obj a]=>(match S[a]? with
   |some (.lst ds)=>some (.int ds.length)
   |_=>none)
 |_=>none
def z1g(_:Sto):List D->Option D
 | [.int i]=>some (.int (if i<0 then -i else i))
 |_=>none
def zzj(_:Sto):List D->Option D
 | [.int i,.int j]=>some (.int (if j>i then j else i))
 |_=>none
section
variable {X:Cx}{K:zFr}{mg:zMg}
theorem one{ρ H d xs}(r:RepL K mg ρ H [d] xs):∃v,xs=[v]/\Rep K mg ρ H d v:=by unfold RepL at r;obtain⟨v,t,rfl,h1,h2⟩:=r;unfold RepL at h2;subst h2;exact⟨v,rfl,h1⟩
theorem two{ρ H d e xs}(r:RepL K mg ρ H [d,e] xs):∃v w,xs=[v,w]/\Rep K mg ρ H d v/\Rep K mg ρ H e w:=by unfold RepL at r;obtain⟨v,t,rfl,h1,h2⟩:=r;obtain⟨w,rfl,h3⟩:=one h2;exact⟨v,w,rfl,h1,h3⟩
theorem zux:zxi K mg (fun xs H Q=>(∃p ys,xs=[.ref p]/\(SqL K H p ys\/SqT K H p ys)/\Q (.int ys.length) H)\/(∃z,xs=[.str z]/\z.length<=sizeLine/\Q (.int z.length) H)) zdj:=by
 intro ρ H S xs ds d Q hS r e k;unfold zdj at e;split at e
 · cases e;replace r:=one r;obtain⟨v,rfl,r⟩:=r;obtain⟨p,vs,rfl,t,r⟩:=r.refL;exact .inl ⟨p,vs,rfl,.inl t.sq,by rw[<-r.length];exact k _ H (Ext.refl _ _) hS rfl⟩
 · cases e;replace r:=one r;obtain⟨v,rfl,r⟩:=r;obtain⟨p,vs,rfl,t,r⟩:=r.refT;exact .inl ⟨p,vs,rfl,.inr t.sq,by rw[<-r.length];exact k _ H (Ext.refl _ _) hS rfl⟩
 · split at e
   · rename_i hz;cases e;replace r:=one r;obtain⟨v,rfl,r⟩:=r;rw[r.refS];exact .inr ⟨_,rfl,hz,k _ H (Ext.refl _ _) hS rfl⟩
   · cases e
 · split at e
   · rename_i ds hd;cases e;replace r:=one r;obtain⟨v,rfl,r⟩:=r;unfold Rep at r;obtain⟨p,rfl,hp⟩:=r;obtain⟨vs,h1,r⟩:=hS.ob _ _ p hd hp;exact .inl ⟨p,vs,rfl,.inl (SqL.of h1),by rw[<-r.length];exact k _ H (Ext.refl _ _) hS rfl⟩
   · cases e
 · cases e
variable {e:Expr}{es:List Expr}{p pos:Pos}{g:As}
theorem zay(hm:X.mg "len"=none)(ha:FA X [e] g)(hg:Gl X "len":=by rfl)(he:starEach [e] X.env=(false,eval e X.env)::starEach [] X.env:=by exact qd rfl)(hpl:(backTo pos (starEach [] X.env)).any (·.1)=false:=by exact qv rfl):FE X (.Call (.Name "len" p) [e] [] pos) (eA zdj g) :=
 zki (call_len_seq.or zhj) zux hm PySem.boot_len ha hg (by decide) (by decide) he hpl
theorem zuz:zxi K mg (fun xs H Q=>∃i,xs=[.int i]/\Q (.int (if i<0 then -i else i)) H) z1g:=by
 intro ρ H S xs ds d Q hS r e k;unfold z1g at e;split at e
 · cases e;replace r:=one r;obtain⟨v,rfl,r⟩:=r;rw[r.refI];exact⟨_,rfl,k _ H (Ext.refl _ _) hS rfl⟩
 · cases e
theorem z0g(hm:X.mg "abs"=none)(ha:FA X [e] g)(hg:Gl X "abs":=by rfl)(he:starEach [e] X.env=(false,eval e X.env)::starEach [] X.env:=by exact qd rfl)(hpl:(backTo pos (starEach [] X.env)).any (·.1)=false:=by exact qv rfl):FE X (.Call (.Name "abs" p) [e] [] pos) (eA z1g g) :=
 zki zsh zuz hm (by with_unfolding_all rfl) ha hg (by decide) (by decide) he hpl
theorem zuw:zxi K mg (fun xs H Q=>∃i j,xs=[.int i,.int j]/\Q (.int (if j>i then j else i)) H) zzj:=by
 intro ρ H S xs ds d Q hS r e k;unfold zzj at e;split at e
 · cases e;replace r:=two r;obtain⟨v,w,rfl,r1,r2⟩:=r;rw[r1.refI,r2.refI];exact⟨_,_,rfl,k _ H (Ext.refl _ _) hS rfl⟩
 · cases e
theorem z0a(hm:X.mg "max"=none)(ha:FA X (e::es) g)(hc:X.calm=true:=by rfl)(hg:Gl X "max":=by rfl)(he:starEach (e::es) X.env=(false,eval e X.env)::starEach es X.env:=by exact qd rfl)(hpl:(backTo pos (starEach es X.env)).any (·.1)=false:=by exact qv rfl):FE X (.Call (.Name "max" p) (e::es) [] pos) (eA zzj g) :=
 zki (zpy hc) zuw hm (by with_unfolding_all rfl) ha hg (by decide) (by decide) he hpl
theorem z0e{x:Str}(n:String)(hm:X.mg x=none)(hv:bootBuiltins x=some (.type n))(hg:Gl X x:=by rfl)(hn:x≠"__name__":=by decide)(hd:(x==("__debug__":Str))=false:=by decide):FE X (.Name x pos) (eK (.ty n)) :=
 yp (zvr (v:=.ty n) hg hm hv rfl hn hd) fun _ _=>rfl
def z00(xs:List D)(lo hi:Option Int):List D:=(xs.drop (HT.sIx xs.length 0 lo)).take (HT.sIx xs.length xs.length hi-HT.sIx xs.length 0 lo)
def z21:D->Option Int->Option Int->Option D
 | .lst ds,lo,hi=>some (.lst (z00 ds lo hi))
 | .tup ds,lo,hi=>if HT.sIx ds.length 0 lo=0/\HT.sIx ds.length ds.length hi=ds.length then none else some (.tup (z00 ds lo hi))
 |_,_,_=>none
abbrev Pt:=Ev->Sto->Option (Option Int×Sto)
def pN:Pt:=fun _ S=>some (none,S)
def pE(f:E):Pt:=fun ev S=>(f ev S).bind fun p=>match p.1 with
 | .int i=>some (some i,p.2)
 |_=>none
def eSl(f:E)(a b:Pt):E:=fun ev S=>(f ev S).bind fun p=>(a ev p.2).bind fun q=>(b ev q.2).bind fun r=>(z21 p.1 q.1 r.1).map fun d=>(d,r.2)
def tPt(K:zFr)(mg:zMg)(f:Pt):TO:=fun σ H Q=>∃ρ ev S o S',EnvR K mg ρ H ev σ/\StOk K mg ρ H S/\f ev S=some (o,S')/\∀ρ' H',Ext ρ H ρ' H'->StOk K mg ρ' H' S'->Q o H'
def FPt(X:Cx)(e:Option Expr)(f:Pt):Prop:=PO X e (tPt X.K X.mg f)
theorem znq{e:Option Expr}{t t':TO}(h:PO X e t)(m:∀σ H Q,t' σ H Q->t σ H Q):PO X e t':=fun pins s σ H Q I q=>h pins s σ H Q I (m _ _ _ q)
theorem zwi:FPt X none pN:=znq zvk fun σ H Q h=>by obtain⟨ρ,ev,S,o,S',hE,hS,hf,k⟩:=h;cases hf;exact k ρ H (Ext.refl _ _) hS
theorem zwh{f:E}(h:FE X e f):FPt X (some e) (pE f):=znq (zvj h) fun σ H Q h=>by
 obtain⟨ρ,ev,S,o,S',hE,hS,hf,k⟩:=h;obtain⟨⟨x,S1⟩,q1,hf⟩:=zw hf;cases x with
 | int i=>
   cases hf;exact⟨ρ,ev,S,_,_,hE,hS,q1,fun v ρ1 H1 E1 hS1 r1=>⟨i,r1,k ρ1 H1 E1 hS1⟩⟩
 |_=>cases hf
theorem zps{ρ H ds vs}(r:RepL K mg ρ H ds vs)(lo hi:Option Int):RepL K mg ρ H (z00 ds lo hi) (zt5 vs lo hi):=by unfold z00 zt5;rw[r.length];exact(r.drop _).take _
theorem zry{a:Expr}{lo hi:Option Expr}{f:E}{u w:Pt}{p2:Pos}(ha:FE X a f)(hl:FPt X lo u)(hh:FPt X hi w):FE X (.Subscript a (.Slice lo hi none p2) pos) (eSl f u w) :=
 qz (zrc (sl_list.or zx9) ha hl hh) fun σ H Q h=>by
   obtain⟨ρ,ev,S,d,S',hE,hS,hf,k⟩:=h;obtain⟨⟨x,S1⟩,q1,hf⟩:=zw hf;obtain⟨⟨lo,S2⟩,q2,hf⟩:=zw hf;obtain⟨⟨hi,S3⟩,q3,hf⟩:=zw hf;obtain⟨z,q4,hf⟩:=zas hf;cases hf;refine⟨ρ,ev,S,x,S1,hE,hS,q1,fun v ρ1 H1 E1 hS1 r1=>⟨ρ1,ev,S1,lo,S2,hE.mono E1,hS1,q2,fun ρ2 H2 E2 hS2=>⟨ρ2,ev,S2,hi,_,(hE.mono E1).mono E2,hS2,q3,fun ρ3 H3 E3 hS3=>?_⟩⟩⟩;have r3:=(r1.mono E2).mono E3;have E:=(E1.trans E2).trans E3;cases x with
   | lst ds=>
     cases q4;obtain⟨p,vs,rfl,t,r⟩:=r3.refL;exact .inl ⟨p,vs,rfl,t.sq,fun b hb=>k _ _ _ (E.trans (jx hS3 _ hb)) (hS3.new _ hb) (Rep.lst (s:=hS3) hb (zps r lo hi))⟩
   | tup ds=>
     replace q4:(if HT.sIx ds.length 0 lo=0/\HT.sIx ds.length ds.length hi=ds.length then none else some (D.tup (z00 ds lo hi)))=some d:=q4;split at q4
     · cases q4
     · rename_i hn;cases q4;obtain⟨p,vs,rfl,t,r⟩:=r3.refT;exact .inr ⟨p,vs,rfl,t.sq,by rw[<-r.length];exact hn,fun b hb=>k _ _ _ (E.trans (jx hS3 _ hb)) (hS3.new _ hb) (Rep.tup (s:=hS3) hb (zps r lo hi))⟩
   |_=>cases q4
def zc4:List D->Option (List Str)
 | []=>some []
 | .str x::r=>(zc4 r).map fun l=>x::l
 |_=>none
theorem zdx{o:Expr}{f h:E}{apos spos:Pos}(ho:FE X o f)(hv:FE X e h)
   (hbase:attributeBase o "append" X.env (eval o X.env)=eval o X.env:=by rfl)
   (hfew:((backTo pos (starEach [e] X.env)).all (fun x=>!x.1)&&(backToKw pos (keywordEach [] X.env)).all (fun x=>x.1.isSome)
     && decide ([e].length+([]:List Keyword).length+(if([]:List Keyword).isEmpty then 0 else 1)<30))=true:=by rfl)
   (hline:(apos.endLine==pos.line)=true:=by rfl) (hs:starEach [e] X.env=(false,eval e X.env)::starEach [] X.env:=by exact qd rfl) (hplain:(backTo pos (starEach [] X.env)).any (·.1)=false:=by exact qv rfl)
   (hsw:swapsWith (.Call (.Attribute o "append" apos) [e] [] pos) none spos.line X.env=pure false:=by rfl) :
   FS X (.Expr (.Call (.Attribute o "append" apos) [e] [] pos) spos) (ko f h) :=
 xg (zno (z2w PySem.F.plainAttrs_list PySem.F.slot_list_append PySem.F.type_list_append zn7 ho (zb hv zd hs) hbase hfew hline hs hplain) hsw) fun σ H D h=>by
   obtain⟨ρ,ev,S,o,S',hE,hS,hf,k⟩:=h;obtain⟨⟨x,S1⟩,q1,hf⟩:=zw hf;cases x with
   | obj a=>
     dsimp only at hf;split at hf
     · rename_i ds0 hd0;obtain⟨⟨y,S2⟩,q2,hf⟩:=zw hf;dsimp only at hf;split at hf
       · rename_i ds hd;split at hf
         · rename_i hl;cases hf;refine⟨ρ,ev,S,_,S1,hE,hS,q1,fun v ρ1 H1 E1 hS1 r1=>?_⟩;have r1':=r1;unfold Rep at r1';obtain⟨p,rfl,hp⟩:=r1';obtain⟨us0,hu0,_⟩:=hS1.ob a _ p hd0 hp;refine⟨.inl ⟨rfl,_,SqL.of hu0⟩,ρ1,ev,S1,[y],S2,hE.mono E1,hS1,by simp only[aC,aN,q2,Option.bind_some],fun vs ρ2 H2 E2 hS2 r2=>?_⟩;obtain⟨w,rfl,r3⟩:=one r2;have hp2:=E2.pre _ _ hp;obtain⟨us,h2,h3⟩:=hS2.ob a _ p hd hp2;have e0:=zfv hS2 (.lst (us++[w])) hp2;refine⟨p,us,w,rfl,rfl,h2,by rw[<-h3.length];exact hl,?_⟩;refine k σ ρ2 _ ((E1.trans E2).trans e0) (hS2.set hp2 ⟨_,qg,?_⟩) (((hE.mono E1).mono E2).mono e0);exact(h3.append (RepL.cons r3 RepL.nil)).mono e0
         · cases hf
       · cases hf
     · cases hf
   |_=>cases hf
theorem zp2:bootBuiltins "list"=some (.type "list"):=by with_unfolding_all rfl
end
def zxh(n:Nat)(g:G):G:=fun ds S=>g (ds++List.replicate n .non) S
theorem zen(i:Nat){X:Cx}{x:Str}{px:Pos}{es:List Expr}{is:List Nat}{t:TGs}(hN:X.N.Nodup)(h:Names X es is t)(hi:X.N[i]? = some x:=by rfl)(hx:Loc X.env.scope x:=by first | exact Or.inl rfl | exact Or.inr rfl)
   (hf:X.fn x=true\/X.env.scope.names.lookup x=some .local:=by first | exact .inl rfl | exact .inr rfl | assumption)
   (hs:(assignEach (.Name x px::es) X.env).map (·.2)=assign (.Name x px) X.env::(assignEach es X.env).map (·.2):=by rfl):Names X (.Name x px::es) (i::is) (zrv (zg5 i) t) :=
 .cons hN hi hx hf h (zrb (zfd hN hi hx hf) h.pgs hs)
def z30(K:zFr)(dV:Value):Nat->Prop
 |0=>dV=.none
 |n+1=>∃(T:Addr) (o:Obj) (m:Nat),dV=.ref T/\K.lookup T=some o/\o.data=.seq (Array.replicate (n+1) Value.none) m
structure HasDef (K:zFr) (mg:zMg) (x:Str) (st:Stmt) (nd:Nat):Prop where
 ex:∃(f:Addr) (fd:FuncData) (dV:Value),FunD K x x st f fd dV/\mg x=some (.ref f)/\z30 K dV nd
structure HasMth (K:zFr) (mg:zMg) (c m qual:Str) (st:Stmt):Prop where
 ex:∃(C f:Addr) (fd:FuncData),FunD K m qual st f fd .none/\mg c=some (.ref C)/\Cls K C/\Meth K C m f
structure HasMk (K:zFr) (mg:zMg) (c qual:Str) (st:Stmt) (nd:Nat):Prop where
 ex:∃(C f:Addr) (fd:FuncData) (dV:Value),FunD K "__init__" qual st f fd dV/\mg c=some (.ref C)/\Mk K C f/\z30 K dV nd
def zxa(x qual:Str)(st:Stmt)(ps:List Str):Prop:=∀(kV doc pm:Value) (an:Option Addr) (cdv ct:Value) (us:List Value),us.length=ps.length ->
 bindArgs (PySem.W.fnOf x qual (za9 st) (j5 st) (zh st) .none kV doc pm an cdv ct) ⟨us,[]⟩=pure (ps.zip us)
def z32(x qual:Str)(st:Stmt)(ps:List Str)(n:Nat):Prop:=∀(T:Addr) (kV doc pm:Value) (an:Option Addr) (cdv ct:Value) (us:List Value),us.length=n ->
 ∃kk,bindArgs (PySem.W.fnOf x qual (za9 st) (j5 st) (zh st) (.ref T) kV doc pm an cdv ct) ⟨us,[]⟩=(seqItems? (.ref T) >>= kk)/\kk (some #[Value.none])=pure (ps.zip (us++List.replicate (ps.length-n) Value.none))
section
variable {P:Program}{w:World}{K:zFr}{mg:zMg}{base:Heap}{x qual c m:Str}{st:Stmt}{N ps:List Str}{k:Nat}{b:C}{dV:Value}{f:Addr}{fd:FuncData}
abbrev z15(P:Program)(w:World)(K:zFr)(mg:zMg)(base:Heap)(N:List Str)(qual:Str)(st:Stmt)(k:Nat)(b:C):Prop :=
 ∀(f:Addr) (cdv:Value) (A:Around) (outer:List Env) (s:Shared) (H:Hp) (E:XK),Room k (A.deeper (envOfC qual (zh st) s.heap.objs.size f cdv)) ->
     FSs (zca CX0 P w K mg base N qual (zh st) f cdv A outer s H E).nox (j5 st) b
theorem FunD.binds0(F:FunD K x qual st f fd .none)(h:zxa x qual st ps):Binds K fd ps []:=by obtain⟨oc,od,kV,doc,pm,an,cdv,ct,osl,rfl,lk,hcd⟩:=F.ex;exact .all (h kV doc pm an cdv ct)
theorem FunD.binds1(F:FunD K x qual st f fd dV)(hd:z30 K dV 1){n:Nat}(h:z32 x qual st ps n)(hn:n<=ps.length):Binds K fd ps (List.replicate (ps.length-n) Value.none):=by obtain⟨oc,od,kV,doc,pm,an,cdv,ct,osl,rfl,lk,hcd⟩:=F.ex;obtain⟨T,o,mm,rfl,hT,ho⟩:=hd;intro s us hK hl;obtain⟨kk,h1,h2⟩:=h T kV doc pm an cdv ct us (by rw[z5n,List.length_replicate]at hl;omega);exact BindsTo.of_defaults rfl (hK T o hT) ho h1 h2
theorem zjd:∀n:Nat,Vals (List.replicate n V.non) (List.replicate n Value.none)
 |0=>.nil
 |n+1=>.cons rfl (zjd n)
theorem znb{ρ H}:∀n:Nat,RepL K mg ρ H (List.replicate n D.non) (List.replicate n V.non)
 |0=>RepL.nil
 |n+1=>RepL.cons rfl (znb n)
theorem HasDef.val{nd:Nat}(h:HasDef K mg x st nd):∃f,mg x=some (.ref f):=let⟨f,_,_,_,e,_⟩:=h.ex;⟨f,e⟩
theorem zwk:FnOk P w K mg base CX0 k f fd ps (spG K mg fun _ _=>none):=by
 have no:∀vs H Q E,¬ spG K mg (fun _ _=>none) vs H Q E:=fun vs H Q E h=>by obtain⟨_,_,_,_,_,_,_,h,_⟩:=h;cases h
 exact⟨fun vs H Q E h=>absurd h (no vs H Q E),fun A outer s H args us vs Q E _ _ _ _ h=>absurd h (no vs H Q E)⟩
theorem HasDef.cal(h:HasDef K mg x st 0)(S:FnScope N ps (zh st))(hb:zxa x x st ps)(hbody:z15 P w K mg base N x st k b):Cal P w K mg base (k+1) x (z7 N.length ps.length b):=by obtain⟨f,fd,dV,F,hm,rfl⟩:=h.ex;exact⟨f,fd,ps,[],[],[],_,F.ok S fun cdv A outer s H E hr=>hbody f cdv A outer s H E hr,hm,F.kp,F.binds0 hb,.nil,fun _ _=>RepL.nil,fun args S r e=>by rw[z6e];exact e⟩
theorem HasDef.none0(h:HasDef K mg x st 0)(hb:zxa x x st ps):Cal P w K mg base k x (fun _ _=>none):=by obtain⟨f,fd,dV,F,hm,rfl⟩:=h.ex;exact⟨f,fd,ps,[],[],[],_,zwk,hm,F.kp,F.binds0 hb,.nil,fun _ _=>RepL.nil,fun args S r e=>by cases e⟩
theorem HasMth.mth(h:HasMth K mg c m qual st)(S:FnScope N ps (zh st))(hb:zxa m qual st ps)(hbody:z15 P w K mg base N qual st k b):Mth P w K mg base (k+1) c m (z7 N.length ps.length b):=by obtain⟨C,f,fd,F,hm,hc,hme⟩:=h.ex;exact⟨C,f,fd,ps,[],[],[],_,F.ok S fun cdv A outer s H E hr=>hbody f cdv A outer s H E hr,hm,hc,hme,F.binds0 hb,.nil,fun _ _=>RepL.nil,fun args S r e=>by rw[z6e];exact e⟩
theorem HasMk.mk1(h:HasMk K mg c qual st 1)(S:FnScope N ps (zh st))(hb:z32 "__init__" qual st ps ps.length)(hbody:z15 P w K mg base N qual st k b):Mak P w K mg base (k+1) c (z7 N.length ps.length b):=by obtain⟨C,f,fd,dV,F,hm,hme,hd⟩:=h.ex;have B:=F.binds1 hd hb (z5p _);rw[z9n]at B;exact⟨C,f,fd,ps,[],[],[],_,F.ok S fun cdv A outer s H E hr=>hbody f cdv A outer s H E hr,hm,hme,B,.nil,fun _ _=>RepL.nil,fun args S r e=>by rw[z6e];exact e⟩
theorem HasMk.mk1d(h:HasMk K mg c qual st 1)(S:FnScope N ps (zh st)){n:Nat}(hn:ps.length=n+1)(hb:z32 "__init__" qual st ps n)(hbody:z15 P w K mg base N qual st k b):Mak P w K mg base (k+1) c (zxh 1 (z7 N.length ps.length b)):=by obtain⟨C,f,fd,dV,F,hm,hme,hd⟩:=h.ex;have B:=F.binds1 hd hb (by omega);rw[hn,z7n]at B;exact⟨C,f,fd,ps,_,_,_,_,F.ok S fun cdv A outer s H E hr=>hbody f cdv A outer s H E hr,hm,hme,B,zjd 1,fun _ _=>znb 1,fun args S r e=>e⟩
end
section
variable {K:zFr}{h:Heap}{mg:zMg} (X:K.In h) (G:h.Ns mainGlobals mg)
include X G
theorem has_def{x:Str}{st:Stmt}{f:Addr}{oc:Value}{od an:Option Addr}{osl:Array (Option Value)}{kV doc pm cdv ct:Value}(a:PySem.W.nsIn K mainGlobals x=some (some (.ref f)))
   (l:K.lookup f=some ⟨oc,od,.func (PySem.W.fnOf x x (za9 st) (j5 st) (zh st) .none kV doc pm an cdv ct),osl⟩) (c:PySem.W.codeIn K cdv x=true) (k:PySem.W.keepIn K (.ref f)=true):HasDef K mg x st 0 :=
 ⟨f,_,.none,⟨⟨oc,od,kV,doc,pm,an,cdv,ct,osl,rfl,l,c⟩,k⟩,z9s X G a,rfl⟩
theorem has_mth{cn m qual:Str}{st:Stmt}{C f:Addr}{oc:Value}{od an:Option Addr}{osl:Array (Option Value)}{kV doc pm cdv ct:Value}(aC:PySem.W.nsIn K mainGlobals cn=some (some (.ref C)))(hc:Cls K C)
   (a:PySem.W.findIn K (.ref C) m=some (some (.ref f))) (i:PySem.W.isFn K (.ref f)=true)
   (l:K.lookup f=some ⟨oc,od,.func (PySem.W.fnOf m qual (za9 st) (j5 st) (zh st) .none kV doc pm an cdv ct),osl⟩) (c:PySem.W.codeIn K cdv qual=true) (k:PySem.W.keepIn K (.ref f)=true):HasMth K mg cn m qual st :=
 ⟨C,f,_,⟨⟨oc,od,kV,doc,pm,an,cdv,ct,osl,rfl,l,c⟩,k⟩,z9s X G aC,hc,⟨a,i,k⟩⟩
theorem has_mk1{cn qual:Str}{st:Stmt}{C f T:Addr}{oc tc:Value}{od an td:Option Addr}{osl tsl:Array (Option Value)}{kV doc pm cdv ct:Value}{m:Nat}(aC:PySem.W.nsIn K mainGlobals cn=some (some (.ref C)))
   (mk:PySem.W.makesIn K C=true) (kc:PySem.W.keepIn K (.ref C)=true) (a:PySem.W.findIn K (.ref C) "__init__"=some (some (.ref f))) (i:PySem.W.isFn K (.ref f)=true)
   (l:K.lookup f=some ⟨oc,od,.func (PySem.W.fnOf "__init__" qual (za9 st) (j5 st) (zh st) (.ref T) kV doc pm an cdv ct),osl⟩) (c:PySem.W.codeIn K cdv qual=true) (k:PySem.W.keepIn K (.ref f)=true)
   (t:K.lookup T=some ⟨tc,td,.seq #[Value.none] m,tsl⟩):HasMk K mg cn qual st 1 :=
 ⟨C,f,_,.ref T,⟨⟨oc,od,kV,doc,pm,an,cdv,ct,osl,rfl,l,c⟩,k⟩,z9s X G aC,⟨mk,a,i,kc⟩,T,_,m,rfl,t,rfl⟩
theorem has_cls{cn:Str}{C:Addr}(aC:PySem.W.nsIn K mainGlobals cn=some (some (.ref C)))(pg:PySem.W.plainGet K C Str.empty=true)(hd:PySem.W.hasDictIn K C=true)(po:PySem.W.plainOver K C=true)(sa:PySem.W.findIn K (.ref C) "__setattr__"=some (some (.builtin "object.__setattr__"))):Cls K C:=⟨pg,hd,po,sa⟩
theorem has_fld{cn n:Str}{C:Addr}(aC:PySem.W.nsIn K mainGlobals cn=some (some (.ref C)))(hc:Cls K C)(a:PySem.W.findIn K (.ref C) n=some none):Fld K mg cn n:=fun C' e=>by rw[z9s X G aC]at e;cases e;exact⟨hc,a⟩
theorem has_int{x:Str}{n:Int}{t:Tok}(a:PySem.W.nsIn K mainGlobals x=some (some (.int n t))):∃t,mg x=some (.int n t):=⟨t,z9s X G a⟩
end
theorem zjp{K mg ρ H}:∀ns:List Int,RepL K mg ρ H (ns.map D.int) (ns.map V.int)
 | []=>RepL.nil
 |_::ns=>RepL.cons rfl (zjp ns)
def zlq:List D->Option (List V)
 | []=>some []
 |d::ds=>(zci d).bind fun v=>(zlq ds).map fun r=>v::r
section
variable {X:Cx}{K:zFr}{mg:zMg}
theorem zg7{ρ H}:∀{ds:List D}{xs vs:List V},zlq ds=some xs->RepL K mg ρ H ds vs->vs=xs/\xs.all zbt=true
 | [],_,_,e,r=>by cases e;unfold RepL at r;exact⟨r,rfl⟩
 | d::ds,_,_,e,r=>by unfold RepL at r;obtain⟨v,r',rfl,r1,r2⟩:=r;obtain⟨x,q1,e⟩:=zw e;obtain⟨xs,q2,e⟩:=zas e;subst e;obtain⟨rfl,f1⟩:=jr q1 r1;obtain⟨rfl,f2⟩:=zg7 q2 r2;exact⟨rfl,by rw[List.all_cons,f1,f2];rfl⟩
end
def zhc(op op':D->D->Option D)(f g h:E):E:=fun ev S=>(f ev S).bind fun p=>(g ev p.2).bind fun q=>(op p.1 q.1).bind fun z=>match z with
 | .bl true=>(h ev q.2).bind fun r=>(op' q.1 r.1).map fun d=>(d,r.2)
 | .bl false=>some (.bl false,q.2)
 |_=>none
theorem ls1{P:List Value->Prop}(h:∀a0,P [a0])(us:List Value)(hl:us.length=1):P us:=match us,hl with
 | [a0],_=>h a0
theorem ls2{P:List Value->Prop}(h:∀a0 a1,P [a0,a1])(us:List Value)(hl:us.length=2):P us:=match us,hl with
 | [a0,a1],_=>h a0 a1
theorem ls3{P:List Value->Prop}(h:∀a0 a1 a2,P [a0,a1,a2])(us:List Value)(hl:us.length=3):P us:=match us,hl with
 | [a0,a1,a2],_=>h a0 a1 a2
theorem ls4{P:List Value->Prop}(h:∀a0 a1 a2 a3,P [a0,a1,a2,a3])(us:List Value)(hl:us.length=4):P us:=match us,hl with
 | [a0,a1,a2,a3],_=>h a0 a1 a2 a3
theorem ls5{P:List Value->Prop}(h:∀a0 a1 a2 a3 a4,P [a0,a1,a2,a3,a4])(us:List Value)(hl:us.length=5):P us:=match us,hl with
 | [a0,a1,a2,a3,a4],_=>h a0 a1 a2 a3 a4
section
variable {X:Cx}{e:Expr}{es:List Expr}{f:E}{g:As}{p pos:Pos}
theorem zup{R R':R2}{op op':D->D->Option D}{f g h:E}{σ:L2.St}{H:Hp}{Q:VK}(hs:zga X.K X.mg R fun _=>op)(hs':zga X.K X.mg R' fun _=>op')(h0:tE X.K X.mg (zhc op op' f g h) σ H Q):zs2 R R' (tE X.K X.mg f) (tE X.K X.mg g) (tE X.K X.mg h) σ H Q:=by
 obtain⟨ρ,ev,S,d,S',hE,hS,hf,k⟩:=h0;obtain⟨⟨x,S1⟩,q1,hf⟩:=zw hf;obtain⟨⟨y,S2⟩,q2,hf⟩:=zw hf;obtain⟨z,q3,hf⟩:=zw hf;refine⟨ρ,ev,S,x,S1,hE,hS,q1,fun v ρ1 H1 E1 hS1 r1=>⟨ρ1,ev,S1,y,S2,hE.mono E1,hS1,q2,fun u ρ2 H2 E2 hS2 r2=>?_⟩⟩;refine hs ρ2 H2 _ v u x y z _ hS2 (r1.mono E2) r2 q3 fun w H3 E3 hS3 r3=>?_;dsimp only at hf;split at hf
 · obtain⟨⟨t,S4⟩,q4,hf⟩:=zw hf;obtain⟨dd,q5,hf⟩:=zas hf;cases hf;refine⟨true,r3,ρ2,ev,S2,t,S4,((hE.mono E1).mono E2).mono E3,hS3,q4,fun tv ρ4 H4 E4 hS4 r4=>?_⟩;exact hs' ρ4 H4 _ u tv y t _ _ hS4 ((r2.mono E3).mono E4) r4 q5 fun w' H5 E5 hS5 r5=>k w' ρ4 H5 ((((E1.trans E2).trans E3).trans E4).trans E5) hS5 r5
 · cases hf;exact⟨false,r3,k _ ρ2 H3 ((E1.trans E2).trans E3) hS3 rfl⟩
 · cases hf
theorem zwp{a b c:Expr}{f g h:E}{pos:Pos}(ha:FE X a f)(hb:FE X b g)(hc:FE X c h)(hm:lastMarks [.LtE,.Lt] [b,c]=false:=by with_unfolding_all rfl):FB X (.Compare a [.LtE,.Lt] [b,c] pos) (bE (zhc znz zb8 f g h)) :=
 zc8 (zq5 zvu zvt ha hb hc hm) fun _ _ _ h=>zul (fun _ h=>zup zb6 zb6 h) h
end
mutual
def bnd(n:Nat):D->Bool
 | .obj i=>decide (i<n)
 | .tup ds=>bndL n ds
 | .lst ds=>bndL n ds
 | .clo _ ds=>bndL n ds
 |_=>true
def bndL(n:Nat):List D->Bool
 | []=>true
 |d::ds=>bnd n d&&bndL n ds
end
def zt8(n:Nat):MO->Bool
 | .lst ds=>bndL n ds
 | .ins _ fs=>bndL n (fs.map (·.2))
 | .dct kvs=>bndL n (kvs.map (·.2))
 | .exc _=>true
 | .tab _ _=>true
def frz(g:G):G:=fun ds S=>(g ds S).bind fun r=>if(r.2.take S.length).all (zt8 S.length)=true then (match r.1 with
 | .obj i=>if i<S.length then some (.obj i,r.2.take S.length)else (match r.2[i]? with
   |some (.lst us)=>if bndL S.length us=true then some (.lst us,r.2.take S.length)else none
   |_=>none)
 |d=>if bnd S.length d=true then some (d,r.2.take S.length)else none)else none
section
variable {K:zFr}{mg:zMg}{ρ ρ':List Addr}{H H':Hp}{S S1:Sto}{n:Nat}
theorem TupAt.cut{p:Addr}{vs:List V}(h:TupAt K ρ H p vs):TupAt K (ρ.take n) H p vs:=h.imp (fun⟨a,b⟩=>⟨fun z=>a (z6x z),b⟩) id
theorem LstAt.cut{p:Addr}{vs:List V}(h:LstAt K ρ H p vs):LstAt K (ρ.take n) H p vs:=h.imp (fun⟨a,b⟩=>⟨fun z=>a (z6x z),b⟩) id
theorem Cells.cut:∀{xs:List Str}{us:List V}{cl:zLA},Cells ρ H xs us cl->Cells (ρ.take n) H xs us cl
 | [],[],[],_=>trivial
 |x::xs,u::us,p::cl,h=>⟨h.1,fun z=>h.2.1 (z6x z),h.2.2.1,Cells.cut h.2.2.2⟩
 | [],[],_::_,h=>h.elim
 | [],_::_,_,h=>h.elim
 |_::_,[],_,h=>h.elim
 |_::_,_::_,[],h=>h.elim
mutual
theorem Rep.cut:∀{d:D}{v:V},bnd n d=true->Rep K mg ρ H d v->Rep K mg (ρ.take n) H d v
 | .non,_,_,h=>h
 | .bl _,_,_,h=>h
 | .int _,_,_,h=>h
 | .str _,_,_,h=>h
 | .fn _,_,_,h=>h
 | .ty _,_,_,h=>h
 | .tup ds,_,hb,h=>by unfold Rep at h ⊢;unfold bnd at hb;obtain⟨p,vs,e1,t,r⟩:=h;exact⟨p,vs,e1,t.cut,RepL.cut hb r⟩
 | .lst ds,_,hb,h=>by unfold Rep at h ⊢;unfold bnd at hb;obtain⟨p,vs,e1,t,r⟩:=h;exact⟨p,vs,e1,t.cut,RepL.cut hb r⟩
 | .obj i,_,hb,h=>by unfold Rep at h ⊢;unfold bnd at hb;obtain⟨a,e1,e2⟩:=h;exact⟨a,e1,by rw[z8m (z63 hb)];exact e2⟩
 | .lam t,_,_,h=>by unfold Rep at h ⊢;obtain⟨a,e1,n1,c,pm,ct,n2,h1,h2⟩:=h;exact⟨a,e1,fun z=>n1 (z6x z),c,pm,ct,fun z=>n2 (z6x z),h1,h2⟩
 | .clo t vs,_,hb,h=>by unfold Rep at h ⊢;unfold bnd at hb;obtain⟨a,us,e1,⟨n1,c,pm,ct,cl,n2,h1,h2,h3,h4⟩,r⟩:=h;exact⟨a,us,e1,⟨fun z=>n1 (z6x z),c,pm,ct,cl,fun z=>n2 (z6x z),h1,h2,h3,h4.cut⟩,RepL.cut hb r⟩
theorem RepL.cut:∀{ds:List D}{vs:List V},bndL n ds=true->RepL K mg ρ H ds vs->RepL K mg (ρ.take n) H ds vs
 | [],_,_,h=>h
 | d::ds,_,hb,h=>by unfold RepL at h ⊢;unfold bndL at hb;obtain⟨v,r,e,h1,h2⟩:=h;obtain⟨b1,b2⟩:=Bool.and_eq_true_iff.mp hb;exact⟨v,r,e,Rep.cut b1 h1,RepL.cut b2 h2⟩
end
theorem MOk.cut{a:Addr}{m:MO}(hb:zt8 n m=true)(h:MOk K mg ρ H a m):MOk K mg (ρ.take n) H a m:=by
 cases m with
 |lst ds=>obtain⟨vs,h1,h2⟩:=h;exact⟨vs,h1,h2.cut hb⟩
 |ins c fs=>obtain⟨C,dx,vs,h0,h1,h2,h3⟩:=h;exact⟨C,dx,vs,h0,h1,h2,h3.cut hb⟩
 |dct kvs=>obtain⟨vs,h1,h2,h3⟩:=h;exact⟨vs,h1,h2,h3.cut hb⟩
 |exc c=>exact h
 |tab x q=>obtain⟨h0,ps,h1,h2,h3⟩:=h;exact⟨h0,ps,h1,h2,fun pos cv z=>let⟨c,z1,z2,z3⟩:=h3 pos cv z;⟨c,z1,fun y=>z2 (z6x y),z3⟩⟩
theorem StOk.cut(hS:StOk K mg ρ H S)(hb:(S.take n).all (zt8 n)=true):StOk K mg (ρ.take n) H (S.take n):=by
 refine⟨by rw[z6m,z6m,hS.len],hS.nd.sublist (z90 _ _),fun i m a e1 e2=>?_⟩;have hi:i<n:=by have:=(z5s.mp e1).1;rw[z6m]at this;omega
 have hm:m∈S.take n:=z6j e1;rw[z8m hi]at e1 e2;exact(hS.ob i m a e1 e2).cut (z6y.mp hb m hm)
theorem Ext.cut(e:Ext ρ H ρ' H')(hn:ρ.length=n):Ext ρ H (ρ'.take n) H' :=
 ⟨fun i a h=>by rw[z8m (by rw[<-hn];exact(z5s.mp h).1)];exact e.pre i a h,e.keep,fun b hb=>e.new b (z6x hb)⟩
theorem zox{g:G}(vs:List V)(H:Hp)(Q:VK)(E:XK)(h:spG K mg (frz g) vs H Q E):spG K mg g vs H Q E:=by
 obtain⟨ρ,ds,S,d,S',hr,hS,hf,k⟩:=h;obtain⟨⟨d1,S1⟩,q1,hf⟩:=zw hf;refine⟨ρ,ds,S,d1,S1,hr,hS,q1,fun v ρ' H' E1 hS1 r1=>?_⟩;dsimp only at hf;split at hf
 · rename_i hb;have e0:=E1.cut hS.len;have s0:=hS1.cut hb;split at hf
   · rename_i i;split at hf
     · rename_i hi;cases hf;exact k v _ H' e0 s0 (r1.cut (by unfold bnd;exact z6b hi))
     · rename_i hi;split at hf
       · rename_i us eu;split at hf
         · rename_i hu;cases hf;unfold Rep at r1;obtain⟨a,rfl,ea⟩:=r1;obtain⟨ws,m1,m2⟩:=hS1.ob i _ a eu ea;refine k _ _ H' e0 s0 ?_;unfold Rep;refine⟨a,ws,rfl,.inl ⟨fun z=>?_,.inl m1⟩,m2.cut hu⟩;obtain⟨j,hj,ej⟩:=z6g z;rw[z6m]at hj;rw[z75]at ej;have hj2:j<ρ'.length:=by omega
           have e3:ρ'[j]? = ρ'[i]?:=by rw[ea,z5v hj2,ej]
           have:=(List.getElem?_inj hj2 hS1.nd).mp e3;omega
         · cases hf
       · cases hf
   · split at hf
     · rename_i hd;cases hf;exact k v _ H' e0 s0 (r1.cut hd)
     · cases hf
 · cases hf
end
theorem Cal.frz{P:Program}{w:World}{K:zFr}{mg:zMg}{base:Heap}{k:Nat}{x:Str}{g:G}(c:Cal P w K mg base k x g):Cal P w K mg base k x (frz g):=by obtain⟨f,fd,ps,ds,dvs,dds,gg,FF,hm,hk,hb,hd,hdd,hg⟩:=c.ex;refine⟨f,fd,ps,ds,dvs,dds,_root_.F.frz gg,FnOk.imp FF zox,hm,hk,hb,hd,hdd,fun args S r e=>?_⟩;obtain⟨r0,q,e⟩:=zw e;show(gg (args++dds) S).bind _=_;rw[hg args S r0 q];exact e
end F
namespace F
open PySem L2 PySem.Spec PyProof.Rows
def zbm(is:List Nat)(body:C):List D->Ev->Sto->Option (Out×Sto)
 | [],ev,S=>some (.nx ev,S)
 | d::ds,ev,S=>match d with
   | .tup us=>(yu ev is us).bind fun e1=>(body e1 S).bind fun p=>(match p.1 with
     | .nx e=>zbm is body ds e p.2
     | .ct e=>zbm is body ds e p.2
     | .bk e=>some (.nx e,p.2)
     | .rt x=>some (.rt x,p.2))
   |_=>none
def zgj(is:List Nat)(f:E)(body:C):C:=fun ev S=>(f ev S).bind fun p=>match p.1 with
 | .lst ds=>zbm is body ds ev p.2
 |_=>none
def zgs(S:Sto):D->D->Option D
 | .obj a,.lst bs=>(match S[a]? with
   |some (.lst as)=>if as.length+bs.length<=sizeLine then some (.lst (as++bs))else none
   |_=>none)
 |x,y=>qa x y
section
variable {K:zFr}{mg:zMg}{ρ1:List Addr}{H1:Hp}{is:List Nat}{body:C}{X:Cx}
def z1j(K:zFr)(mg:zMg)(ρ1:List Addr)(H1:Hp)(is:List Nat)(body:C)(o:Out)(S':Sto)(ds:List D)(σ:L2.St)(H:Hp):Prop :=
 ∃ρ ev S,Ext ρ1 H1 ρ H/\StOk K mg ρ H S/\EnvR K mg ρ H ev σ/\zbm is body ds ev S=some (o,S')
theorem zrx{f:E}(is:List Nat){es:List Expr}{t:TGs}{kk:Nat}{pt pos:Pos}{l:Expr}{sb:List Stmt}(hn:Names X es is t)(hl:FE X l f)(hb:FSs X sb body)(hp:PassesOwn (model X.prog X.w) X.A X.env X.xe)(hc:X.calm=true:=by rfl)(hln:(assignEach es X.env).length=is.length:=by rfl)(hst:(assignEach es X.env).findIdx? (·.1)=none:=by rfl)
   (hs:∀v,foldedSetIterable l X.env v=pure v:=by intro _;rfl) :
   FS X (.For (.Tuple es kk pt) l sb [] pos) (zgj is f body) :=
 xg (znn hp hc (zfc hl) (zyz hc hn.pgs hln hst) hb hs) fun σ H D h=>by
   obtain⟨ρ,ev,S,o,S',hE,hS,hf,k⟩:=h;obtain⟨⟨d,S1⟩,q1,hf⟩:=zw hf;cases d with
   | lst ds=>
     refine⟨ρ,ev,S,_,S1,hE,hS,q1,fun v ρ1 H1 E1 hS1 r1=>?_⟩;unfold Rep at r1;obtain⟨p,vs,rfl,t1,r⟩:=r1;have k1:=k.ext E1;refine⟨p,rfl,⟨vs,t1.sq⟩,zkf (K:=X.K) (a:=p) (xs:=vs) (fun j σ' H'=>z1j X.K X.mg ρ1 H1 is body o S' (ds.drop j) σ' H') ⟨ρ1,ev,S1,Ext.refl _ _,hS1,hE.mono E1,hf⟩ (fun j σ' H' _ ⟨ρ',ev',S2,e0,_⟩=>(t1.mono e0).sq) ?_ ?_⟩
     · rintro j y σ' H' hj ⟨ρ',ev',S2,e0,hS2,hE2,hl2⟩;have hjl:j<ds.length:=by rw[r.length];exact(z5s.mp hj).1
       have ed:ds.drop j=ds[j]::ds.drop (j+1):=z60 hjl;obtain⟨y',ey,ry⟩:=(r.mono e0).get (z5v hjl);rw[hj]at ey;cases ey;rw[ed]at hl2;generalize ds[j]=dj at hl2 ry;unfold zbm at hl2;cases dj with
       | tup us=>
         dsimp only at hl2;obtain⟨e1,q2,hl2⟩:=zw hl2;obtain⟨⟨o1,S3⟩,q3,hl2⟩:=zw hl2;unfold Rep at ry;obtain⟨pp,ws,rfl,tt,rr⟩:=ry;refine⟨pp,ws,rfl,tt.sq,by rw[<-rr.length];exact zej q2,zrh hn rr hE2 q2 fun σ2 hE3=>⟨ρ',e1,S2,o1,S3,hE3,hS2,q3,?_⟩⟩;cases o1 with
         |nx e=>exact fun σ3 ρ3 H3 E3 hS3 hE4=>⟨ρ3,e,S3,e0.trans E3,hS3,hE4,hl2⟩
         |ct e=>exact fun σ3 ρ3 H3 E3 hS3 hE4=>⟨ρ3,e,S3,e0.trans E3,hS3,hE4,hl2⟩
         |bk e=>cases hl2;exact fun σ3 ρ3 H3 E3 hS3 hE4=>k1 σ3 ρ3 H3 (e0.trans E3) hS3 hE4
         |rt y=>cases hl2;exact fun v3 ρ3 H3 E3 hS3 r3=>k1 v3 ρ3 H3 (e0.trans E3) hS3 r3
       |_=>cases hl2
     · rintro σ' H' ⟨ρ',ev',S2,e0,hS2,hE2,hl2⟩;rw[z8z (by rw[r.length];exact z5p _)]at hl2;cases hl2;exact k1 σ' ρ' H' e0 hS2 hE2
   |_=>cases hf
theorem zqt:zga K mg (fun x y H Q=>rI0 (fun i j=>.int (i+j)) x y H Q\/(∃i j,x=.str i/\y=.str j/\i.length+j.length<=sizeLine/\Q (.str (i++j)) H)\/zu9 K x y H Q\/zu8 K x y H Q\/znh K x y H Q) zgs:=by
 intro ρ H S x y dx dy d Q hS rx ry e k;unfold zgs at e;split at e
 · split at e
   · rename_i a bs _ as ea;split at e
     · rename_i hl;cases e;unfold Rep at rx;obtain⟨p,rfl,hp⟩:=rx;obtain⟨vs,m1,m2⟩:=hS.ob a _ p ea hp;obtain⟨q,us,rfl,t2,r2⟩:=ry.refL;refine .inr (.inr (.inl ⟨p,q,vs,us,rfl,rfl,SqL.of m1,t2.sq,by rw[<-m2.length,<-r2.length];exact hl,fun z hz=>?_⟩));exact k _ _ (jx hS _ hz) (hS.new _ hz) (Rep.lst (s:=hS) hz (m2.append r2))
     · cases e
   · cases e
 · exact zmz ρ H S x y dx dy d Q hS rx ry e k
theorem zwo{a b:Expr}{f g:E}{pos:Pos}(ha:FE X a f)(hb:FE X b g):FE X (.BinOp a .Add b pos) (e2s zgs f g) :=
 zdz (op_add.or (op_add_str.or (op_catL.or (op_catT.or zjx)))) zqt ha hb
end
def zd9(c:B)(g:E)(fr:Ev):List D->Sto->Option (List D×Sto)
 | [],S=>some ([],S)
 |d::ds,S=>(c (some d::fr) S).bind fun p=>if p.1=true then (g (some d::fr) p.2).bind fun q=>(zd9 c g fr ds q.2).bind fun r=>some (q.1::r.1,r.2)else zd9 c g fr ds p.2
def zl9:B:=fun _ S=>some (true,S)
inductive FT (X:Cx):List Expr->B->Prop
 |nil:FT X [] zl9
 |one {e:Expr}{u:B}:FB X e u->FT X [e] u
section
variable {X:Cx}{pins:zAO}{σ:L2.St}{H:Hp}{s:Shared}{scope:Scope}{x:Str}{N':List Str}{fr:List Nat}
theorem zzz{ifs:List Expr}{c:B}(h:FT X ifs c){Q:Bool->Hp->Prop}(I:Inv X pins σ H s)(t:tB X.K X.mg c σ H Q) :
   wpAny (model X.prog X.w) X.A (forIn ifs true fun c r=>if r=true then do let ok <-isTrue c X.env (eval c X.env);pure (ForInStep.yield ok)else pure (ForInStep.yield r)) (TP X pins σ Q) X.xe s:=by
 cases h with
 | nil=>
   obtain⟨ρ,ev,S,b,S',hE,hS,hf,k⟩:=t;cases hf;exact wpAny_tests_nil ⟨H,I,k ρ H (Ext.refl _ _) hS⟩
 |one h=>exact wpAny_tests_one (h pins s σ H Q I t)
end
def zl8(kvs:List (Int×D))(k:Int):Bool:=kvs.any fun p=>decide (p.1=k)
section
variable {K:zFr}{mg:zMg}{ρ:List Addr}{H:Hp}{S:Sto}
theorem zj6:∀{kvs:List (Int×D)}{vs:List (Key×V)}{k:Int},vs.map (·.1)=kvs.map (fun p=>(Sum.inl p.1:Key))->(zl7 vs (Sum.inl k)).isSome=zl8 kvs k
 | [],[],_,_=>rfl
 | [],_::_,_,h=>by cases h
 |_::_,[],_,h=>by cases h
 | p::kvs,q::vs,k,h=>by
   have h1:q.1=Sum.inl p.1:=(z9t h).1;have h2:vs.map (·.1)=kvs.map (fun p=>(Sum.inl p.1:Key)):=(z9t h).2;by_cases e:p.1=k
   · rw[zcm (by rw[h1,e])];unfold zl8;rw[List.any_cons,z6b e];rfl
   · rw[zcn (by rw[h1];exact fun z=>e (qbl z)),zj6 h2];unfold zl8;rw[List.any_cons,z54 e];rfl
def z0s:E:=fun _ S=>some (.obj S.length,S++[.dct []])
variable {X:Cx}{a b e o i:Expr}{f g h:E}{pos:Pos}
theorem zwm:FE X (.Dict [] [] pos) z0s :=
 qz zre fun σ H Q h=>by obtain⟨ρ,ev,S,d,S',hE,hS,hf,k⟩:=h;cases hf;intro p hp;refine k _ _ _ (za7 hS _ hp) (hS.add hp ⟨[],qg,rfl,RepL.nil⟩) ?_;unfold Rep;refine⟨p,rfl,?_⟩;rw[z51 (by rw[hS.len]<;>exact z5p _),hS.len];simp
def zc9(S:Sto)(x y:D):Option D:=match x,y with
 | .int k,.obj a=>(match S[a]? with
   |some (.dct kvs)=>some (.bl (!zl8 kvs k))
   |_=>none)
 |_,_=>none
def zng:R2:=fun y x H Q=>∃a o,x=.ref a/\DGet H a y o/\Q (.bl (!o.isSome)) H
theorem znx(hu:X.A.units+1<cLine):OpR X (compareOp .NotIn) zng:=by intro pins s σ H y x u v Q I ry rx h;obtain⟨a,o,rfl,g,q⟩:=h;obtain rfl:v=Value.ref a:=rx;exact zwu hu I g ry fun s3 I3=>⟨.bl (!o.isSome),H,I3,rfl,q⟩
theorem zk8:zga K mg zng zc9:=by
 intro ρ H S x y dx dy d Q hS rx ry e k;unfold zc9 at e;split at e
 · rename_i kk a;split at e
   · rename_i kvs hd;cases e;unfold Rep at ry;obtain⟨p,rfl,hp⟩:=ry;obtain⟨vs,m1,m2,m3⟩:=hS.ob a _ p hd hp;have ex:x=kV (Sum.inl kk):=rx;rw[ex];exact⟨p,_,rfl,DGet.k m1,by rw[zj6 m2];exact k _ H (Ext.refl _ _) hS rfl⟩
   · cases e
 · cases e
theorem zr3{k:Nat}(hr:Room k X.A)(ha:FE X a f)(hb:FE X b g)(hm:behindInMarks .NotIn b=false:=by rfl):FB X (.Compare a [.NotIn] [b] pos) (bE (e2s zc9 f g)):=zaz (znx (by have:=hr.un;omega)) zk8 ha hb hm
theorem RepL.dropLast{ds:List D}{vs:List V}(r:RepL K mg ρ H ds vs):RepL K mg ρ H ds.dropLast vs.dropLast:=by rw[List.dropLast_eq_take,List.dropLast_eq_take,<-r.length];exact r.take _
end
theorem zu6{k:Key}{u:Value}(h:zit k u=true):RelV (kV k) u:=by
 rcases ja h with⟨i,t,rfl,rfl⟩ | ⟨x,t,rfl,rfl⟩
 · exact⟨t,rfl⟩
 · exact⟨t,rfl⟩
structure Fly (h₀ h:Heap) (H:Hp) (a C:Addr):Prop where
 new:h₀.get? a=none
 un:H a=none
 tr:∃oe vs T oT ts,h.get? a=some oe/\oe.cls=.ref C/\oe.data=.fields vs/\vs[1]? = some (.ref T)/\h₀.get? T=none/\H T=none/\T≠a/\h.get? T=some oT/\oT.data=.fields ts/\ts[3]? = some .none
theorem za5{h base:Heap}{xs:List Addr}:∀{l:List Env},h.FunFrames base l->(∀b∈frs l,b∈xs)->h.FunFrames (PySem.W.hideAll h xs) l
 | [],_,_=>trivial
 | env::l,⟨hk,⟨L,o,hf,hn,ho,hd⟩,hr⟩,hx=>by
   refine⟨hk,⟨L,o,hf,z8j xs (hx L ?_),ho,hd⟩,za5 hr fun b hb=>hx b ?_⟩
   · unfold frs;rw[List.filterMap_cons,hf];exact z5z ..
   · unfold frs at hb ⊢;rw[List.filterMap_cons,hf];exact z5u _ hb
structure Lft (fs:List Addr) (h₀:Heap) (H:Hp) (a C:Addr) (h h':Heap):Prop where
 keep:∀b o,h.get? b=some o->b∉fs->(∃o',h₀.get? b=some o')\/(∃u,H b=some u)->h'.get? b=some o
 slot:∀b o,h.get? b=some o->b∈fs->∃sl,h'.get? b=some { o with slots:=sl }
section
variable {M:Model}{A:Around}{E:zVP}{s:Shared}
theorem zeq{base h₀:Heap}{H:Hp}{env:Env}{outer:List Env}{L a C:Addr}{Q:Unit->Shared->Prop}(hfr:A.frames=some (env::outer))(hl:s.heap.FunFrames base (env::outer))(hf:env.frame=some L)(fl:Fly h₀ s.heap H a C)
   (hH:∀b u,H b=some u->∃o,s.heap.get? b=some o) (h0:∀b o,h₀.get? b=some o->∃o',s.heap.get? b=some o')
   (h:∀h',Fly h₀ h' H a C->Lft (frs (env::outer)) h₀ H a C s.heap h'->h'.FunFrames base (env::outer)->Q () { s with heap:=h' }):wpAny M A (leaving env (.ref a)) Q E s:=by
 obtain⟨oe,vs,T,oT,ts,he,hc,hd,h1,hT0,hTH,hTa,hT,hdT,h3⟩:=fl.tr;generalize hxs:frs (env::outer)++[a,T]=xs;have hfx:∀b∈frs (env::outer),b∈xs:=fun b hb=>by rw[<-hxs];exact z6w _ hb
 have hax:a∈xs:=by rw[<-hxs];simp
 have hTx:T∈xs:=by rw[<-hxs];simp
 refine wpAny_leaving_next (base:=PySem.W.hideAll s.heap xs) (cls:=.ref C) hfr (za5 hl hfx) hf ⟨oe,vs,T,oT,ts,he,hc,hd,h1,z8j xs hTx,hTa,hT,hdT,h3⟩ (fun b o e=>qas xs e) (z8j xs hax) fun h' hL=>?_;obtain⟨k1,k2,k3,k4⟩:=hL;obtain⟨oe',vs',T',oT',ts',he',hc',hd',h1',hT',hTa',hT2,hdT',h3'⟩:=k3;have hTf:T'∉frs (env::outer):=fun z=>by obtain⟨_,o,ho,hnf⟩:=k2.mem z;rw[hT2]at ho;cases ho;exact hnf _ hdT'
 have hTn:s.heap.get? T'=none\/T'=T:=by
   cases q:s.heap.get? T' with
   |none=>exact .inl rfl
   | some o=>
     by_cases z:T'∈xs
     · rw[<-hxs]at z;rcases z6i.mp z with z | z
       · exact absurd z hTf
       · simp at z;exact .inr (z.resolve_left hTa')
     · rw[z8r xs q z]at hT';cases hT'
 refine h h' ⟨fl.new,fl.un,oe',vs',T',oT',ts',he',hc',hd',h1',?_,?_,hTa',hT2,hdT',h3'⟩ ⟨fun b o e nb hb=>?_,fun b o e hb=>?_⟩ (hl.of_keeps fun b o e hnf=>?_)
 · rcases hTn with z | rfl
   · cases q:h₀.get? T' with
     |none=>rfl
     |some o=>obtain⟨o',q'⟩:=h0 T' o q;rw[z]at q';cases q'
   · exact hT0
 · rcases hTn with z | rfl
   · cases q:H T' with
     |none=>rfl
     |some o=>obtain⟨o',q'⟩:=hH T' o q;rw[z]at q';cases q'
   · exact hTH
 · refine k1 b o (z8r xs e fun z=>?_);rw[<-hxs]at z;rcases z6i.mp z with z | z
   · exact nb z
   · simp at z;rcases z with rfl | rfl
     · rcases hb with⟨_,hb⟩ | ⟨u,hb⟩
       · rw[fl.new]at hb;cases hb
       · rw[fl.un]at hb;cases hb
     · rcases hb with⟨_,hb⟩ | ⟨u,hb⟩
       · rw[hT0]at hb;cases hb
       · rw[hTH]at hb;cases hb
 · obtain⟨_,o2,ho2,hnf⟩:=hl.mem hb;rw[e]at ho2;cases ho2;exact k4 b o e hnf
 · obtain⟨sl,q⟩:=k4 b o e hnf;exact⟨_,q,rfl⟩
theorem zdk{base h₀:Heap}{H:Hp}{env:Env}{outer:List Env}{L a C:Addr}{oe:Obj}{vs:Array Value}{Q:Unit->Shared->Prop}(hfr:A.frames=some (env::outer))(hl:s.heap.FunFrames base (env::outer))(hf:env.frame=some L)
   (he:s.heap.get? a=some oe) (hc:oe.cls=.ref C) (hd:oe.data=.fields vs) (h1:vs[1]? = some .none) (hn:h₀.get? a=none) (hu:H a=none)
   (hH:∀b u,H b=some u->∃o,s.heap.get? b=some o) (h0:∀b o,h₀.get? b=some o->∃o',s.heap.get? b=some o')
   (h:∀h',Fly h₀ h' H a C->Lft (frs (env::outer)) h₀ H a C s.heap h'->h'.FunFrames base (env::outer)->Q () { s with heap:=h' }):wpAny M A (leaving env (.ref a)) Q E s:=by
 generalize hxs:frs (env::outer)++[a]=xs;have hfx:∀b∈frs (env::outer),b∈xs:=fun b hb=>by rw[<-hxs];exact z6w _ hb
 have hax:a∈xs:=by rw[<-hxs];simp
 refine wpAny_leaving_first (base:=PySem.W.hideAll s.heap xs) hfr (za5 hl hfx) hf he (fun b o e=>qas xs e) (z8j xs hax) hd h1 fun h' hL=>?_;obtain⟨k1,k2,k3,k4⟩:=hL;obtain⟨oe',vs',T',oT',ts',he',hc',hd',h1',hT',hTa',hT2,hdT',h3'⟩:=k3;have hTf:T'∉frs (env::outer):=fun z=>by obtain⟨_,o,ho,hnf⟩:=k2.mem z;rw[hT2]at ho;cases ho;exact hnf _ hdT'
 have hTn:s.heap.get? T'=none:=by
   cases q:s.heap.get? T' with
   |none=>rfl
   | some o=>
     by_cases z:T'∈xs
     · rw[<-hxs]at z;rcases z6i.mp z with z | z
       · exact absurd z hTf
       · exact absurd (z6a.mp z) hTa'
     · rw[z8r xs q z]at hT';cases hT'
 refine h h' ⟨hn,hu,oe',vs',T',oT',ts',he',hc'.trans hc,hd',h1',?_,?_,hTa',hT2,hdT',h3'⟩ ⟨fun b o e nb hb=>?_,fun b o e hb=>?_⟩ (hl.of_keeps fun b o e hnf=>?_)
 · cases q:h₀.get? T' with
   |none=>rfl
   |some o=>obtain⟨o',q'⟩:=h0 T' o q;rw[hTn]at q';cases q'
 · cases q:H T' with
   |none=>rfl
   |some o=>obtain⟨o',q'⟩:=hH T' o q;rw[hTn]at q';cases q'
 · refine k1 b o (z8r xs e fun z=>?_);rw[<-hxs]at z;rcases z6i.mp z with z | z
   · exact nb z
   · rw[z6a.mp z]at hb;rcases hb with⟨_,hb⟩ | ⟨u,hb⟩
     · rw[hn]at hb;cases hb
     · rw[hu]at hb;cases hb
 · obtain⟨_,o2,ho2,hnf⟩:=hl.mem hb;rw[e]at ho2;cases ho2;exact k4 b o e hnf
 · obtain⟨sl,q⟩:=k4 b o e hnf;exact⟨_,q,rfl⟩
end
def CX1(P:Program)(w:World):CXT:=fun outer H s E e s'=>
 ∃a C H',e=.ref a/\s'.os=s.os/\AllBare s'.gens/\Un (frs outer) [] H H' s.heap s'.heap/\HOk P w H' s'.heap/\Fly s.heap s'.heap H' a C/\E e (some C) H'
section
variable {X:Cx}{pins:zAO}{σ:L2.St}{H:Hp}{s:Shared}
theorem Fly.back{h₀ h₁ h:Heap}{a C:Addr}(f:Fly h₁ h H a C)(k:∀b o,h₀.get? b=some o->∃o',h₁.get? b=some o'):Fly h₀ h H a C:=by
 have n:∀b,h₁.get? b=none->h₀.get? b=none:=fun b e=>by
   cases q:h₀.get? b with
   |none=>rfl
   |some o=>obtain⟨o',q'⟩:=k b o q;rw[e]at q';cases q'
 obtain⟨oe,vs,T,oT,ts,r1,r2,r3,r4,r5,r6⟩:=f.tr;exact⟨n a f.new,f.un,oe,vs,T,oT,ts,r1,r2,r3,r4,n T r5,r6⟩
theorem zmj{fs:List Addr}{H₀:Hp}{L a C:Addr}{h₀ h h':Heap}(u:Un fs [] H₀ H h₀ h)(l:Lft (L::fs) h₀ H a C h h')(hL:h₀.get? L=none):Un fs [] H₀ H h₀ h' where
 keep:=fun b o e n nb hx=>l.keep b o (u.keep b o e n nb hx) (fun z=>(z5y.mp z).elim (fun z=>by rw[z,hL]at e;cases e) nb) (.inl ⟨_,e⟩)
 slot:=fun b o e n nb hx=>by obtain⟨sl,q⟩:=u.slot b o e n nb hx;obtain⟨sl',q'⟩:=l.slot b _ q (z5u _ nb);exact⟨sl',q'⟩
 free:=u.free
 there:=fun b o e hx=>by
   obtain⟨o',q⟩:=u.there b o e hx;by_cases z:b∈L::fs
   · obtain⟨sl,q'⟩:=l.slot b _ q z;exact⟨_,q'⟩
   · exact⟨_,l.keep b _ q z (.inl ⟨_,e⟩)⟩
 tups:=u.tups
 frzs:=u.frzs
 tbls:=u.tbls
theorem zak{P:Program}{w:World}{h:Heap}{a:Addr}{o:HO}(x:ObjOk P w H h a o):∃q,h.get? a=some q:=by
 cases o with
 |lst xs=>obtain⟨_,_,_,_,e⟩:=x;exact⟨_,e⟩
 |tup xs=>obtain⟨_,_,_,p⟩:=x;obtain⟨o,e,_⟩:=p;exact⟨_,e⟩
 |dK kvs=>obtain⟨_,_,_,_,o,_,_,e,_⟩:=x;exact⟨_,e⟩
 |dT kvs=>obtain⟨_,_,_,_,o,_,_,e,_⟩:=x;exact⟨_,e⟩
 |set S n=>obtain⟨o,_,_,_,e,_⟩:=x;exact⟨_,e⟩
 |ins C dx fs=>obtain⟨_,_,_,e,_⟩:=x;exact⟨_,e⟩
 |own y=>obtain⟨_,e⟩:=x;exact⟨_,e⟩
 |xd fs=>obtain⟨_,⟨_,_,_,e,_⟩,_⟩:=x;exact⟨_,e⟩
 |rng lo hi=>obtain⟨_,_,_,e⟩:=x;exact⟨_,e⟩
 |frz ob u=>obtain⟨e,_⟩:=x;exact⟨_,e⟩
 |tbl ps=>exact⟨_,(show h.get? a=some _ from x)⟩
 |met f y=>exact⟨_,(show h.get? a=some _ from x)⟩
 |ext φ=>obtain⟨_,⟨_,e⟩,_⟩:=x;exact⟨_,e⟩
theorem zbp{P:Program}{w:World}{fs:List Addr}{a C:Addr}{h₀ h h':Heap}(ok:HOk P w H h)(l:Lft fs h₀ H a C h h')(hf:∀b∈fs,H b=none):HOk P w H h':=fun b u e=>
 (ok b u e).stay (fun c v hc r=>by
   have ht:∃z,H c=some z:=by
     rcases hc with rfl | hc
     · exact⟨_,e⟩
     · exact⟨_,hc⟩
   obtain⟨z,hz⟩:=ht;exact l.keep c v r (fun m=>by rw[hf c m]at hz;cases hz) (.inr ⟨z,hz⟩)) (fun c r=>r) fun c xs r=>r
theorem zuh{P:Program}{w:World}{K:zFr}{mg:zMg}{base:Heap}{N:List Str}{qual:Str}{scope:Scope}{f:Addr}{cd:Value}{A:Around}{outer:List Env}{s₀:Shared}{H₀:Hp}{E:XK}{a C:Addr}
   (I:Inv (zca (CX1 P w) P w K mg base N qual scope f cd A outer s₀ H₀ E) pins σ H s) (fl:Fly s₀.heap s.heap H a C) (hE:E (.ref a) (some C) H):(zca (CX1 P w) P w K mg base N qual scope f cd A outer s₀ H₀ E).xe (.ref a) s:=by
 have hfs:∀b∈frs (envOfC qual scope s₀.heap.objs.size f cd::outer),H b=none:=I.stkFree;refine zeq (base:=base) (h₀:=s₀.heap) (H:=H) (L:=s₀.heap.objs.size) I.ok.frames I.stack rfl fl (fun b u e=>zak (I.hok b u e)) (fun b o e=>I.base.there b o e (by show b∉([]:List Addr);simp)) fun h' f1 l1 _=>?_;have l2:Lft (s₀.heap.objs.size::frs outer) s₀.heap H a C s.heap h':=l1;exact⟨a,C,H,rfl,I.os,I.bare,zmj I.base l2 (z9d (z5p _)),zbp I.hok l1 hfs,f1,hE⟩
theorem zqf{P:Program}{w:World}{K:zFr}{mg:zMg}{base:Heap}{N:List Str}{qual:Str}{scope:Scope}{f:Addr}{cd:Value}{A:Around}{outer:List Env}{s₀:Shared}{H₀:Hp}{E:XK}{a C:Addr}{h₁:Heap}{args:List Value}
   (I:Inv (zca (CX1 P w) P w K mg base N qual scope f cd A outer s₀ H₀ E) pins σ H s) (mk:Heap.MadeExcOf s.heap h₁ a (.ref C) args) (hE:E (.ref a) (some C) H):(zca (CX1 P w) P w K mg base N qual scope f cd A outer s₀ H₀ E).xe (.ref a) { s with heap:=h₁ }:=by
 have I1:Inv (zca (CX1 P w) P w K mg base N qual scope f cd A outer s₀ H₀ E) pins σ H { s with heap:=h₁ }:=I.kept (t':=s.toks) mk.keeps;obtain⟨t,he,_⟩:=mk.there;have hu:H a=none:=by
   cases q:H a with
   |none=>rfl
   |some u=>obtain⟨o,z⟩:=zak (I.hok a u q);rw[mk.new]at z;cases z
 have hn:s₀.heap.get? a=none:=by
   cases q:s₀.heap.get? a with
   |none=>rfl
   |some o=>obtain⟨o',z⟩:=I.base.there a o q (by show a∉([]:List Addr);simp);rw[mk.new]at z;cases z
 have hfs:∀b∈frs (envOfC qual scope s₀.heap.objs.size f cd::outer),H b=none:=I1.stkFree;refine zdk (base:=base) (h₀:=s₀.heap) (H:=H) (L:=s₀.heap.objs.size) I1.ok.frames I1.stack rfl he rfl rfl rfl hn hu (fun b u e=>zak (I1.hok b u e)) (fun b o e=>I1.base.there b o e (by show b∉([]:List Addr);simp)) fun h' f1 l1 _=>?_;have l2:Lft (s₀.heap.objs.size::frs outer) s₀.heap H a C h₁ h':=l1;exact⟨a,C,H,rfl,I1.os,I1.bare,zmj I1.base l2 (z9d (z5p _)),zbp I1.hok l1 hfs,f1,hE⟩
theorem z2y{P:Program}{w:World}{K:zFr}{mg:zMg}{base:Heap}{N:List Str}{qual:Str}{scope:Scope}{f:Addr}{cd:Value}{A:Around}{outer:List Env}{s₀:Shared}{H₀:Hp}{E:XK} :
   zd4 (CX1 P w) (zca (CX1 P w) P w K mg base N qual scope f cd A outer s₀ H₀ E) E:=fun pins σ H s e s' I h=>by
 obtain⟨a,C,H',rfl,os,bare,un,hok,fl,hE⟩:=h;have I1:Inv (zca (CX1 P w) P w K mg base N qual scope f cd A outer s₀ H₀ E) pins σ H' s':=I.call' os un hok bare fun b hb=>absurd hb (by simp);exact zuh I1 (fl.back fun b o e=>I.base.there b o e (by show b∉([]:List Addr);simp)) hE
end
abbrev R:=Ev->Sto->Option (Str×Sto)
def zld(c:C)(r:R):R:=fun ev S=>(c ev S).bind fun p=>match p.1 with
 | .nx e=>r e p.2
 |_=>none
def rIf(u:B)(a b:R):R:=fun ev S=>(u ev S).bind fun p=>if p.1=true then a ev p.2 else b ev p.2
def zyi:R:=fun _ _=>none
section
variable (K:zFr) (mg:zMg)
def tR(r:R)(σ:L2.St)(H:Hp)(E:XK):Prop:=∃ρ ev S c S',EnvR K mg ρ H ev σ/\StOk K mg ρ H S/\r ev S=some (c,S')/\∃C,mg c=some (.ref C)/\∀e ρ' H',Ext ρ H ρ' H'->StOk K mg ρ' H' S'->E e (some C) H'
end
structure XE (X:Cx) (pins:zAO) (σ:L2.St) (E:XK):Prop where
 first:∀{H s a C h₁ args},Inv X pins σ H s->Heap.MadeExcOf s.heap h₁ a (.ref C) args->E (.ref a) (some C) H->X.xe (.ref a) { s with heap:=h₁ }
 pass:∀{H s e s'},Inv X pins σ H s->CX1 X.prog X.w X.stack H s E e s'->X.xe e s'
def RS(X:Cx)(st:Stmt)(r:R):Prop:=∀(pins:zAO) (s:Shared) (σ:L2.St) (H:Hp) (E:XK) (Q:Flow->Shared->Prop),XE X pins σ E->Inv X pins σ H s->tR X.K X.mg r σ H E->wpAny (model X.prog X.w) X.A (exec st X.env) Q X.xe s
def RSs(X:Cx)(sts:List Stmt)(r:R):Prop:=∀(pins:zAO) (s:Shared) (σ:L2.St) (H:Hp) (E:XK) (Q:Flow->Shared->Prop),(∀σ,XE X pins σ E)->Inv X pins σ H s->tR X.K X.mg r σ H E->wpAny (model X.prog X.w) X.A (execs sts X.env) Q X.xe s
def RTs(X:Cx)(sts:List Stmt)(r:R):Prop:=∀(pins:zAO) (s:Shared) (σ:L2.St) (H:Hp) (E:XK) (Q:Flow->Shared->Prop),XE X pins σ E->Inv X pins σ H s->tR X.K X.mg r σ H E->wpAny (model X.prog X.w) X.A (execs sts X.env) Q X.xe s
def RE(X:Cx)(e:Expr)(r:R):Prop:=∀(pins:zAO) (s:Shared) (σ:L2.St) (H:Hp) (E:XK) (Q:zVP),XE X pins σ E->Inv X pins σ H s->tR X.K X.mg r σ H E->wpAny (model X.prog X.w) X.A (eval e X.env) Q X.xe s
section
variable {X:Cx}{st:Stmt}{rest a b:List Stmt}{c:C}{u:B}{r r':R}{e:Expr}{es:List Expr}{pos p:Pos}
theorem zag(h:RS X st r):RSs X (st::rest) r:=fun pins s σ H E Q hx I t=>z8a (h pins s σ H E _ (hx σ) I t)
theorem zbh(h:RS X st r):RTs X (st::rest) r:=fun pins s σ H E Q hx I t=>z8a (h pins s σ H E _ hx I t)
theorem yj(h1:FS X st c)(h2:RSs X rest r):RSs X (st::rest) (zld c r):=by
 intro pins s σ H E Q hx I t;obtain⟨ρ,ev,S,nm,S',hE,hS,hf,C,hC,k⟩:=t;obtain⟨⟨o,S1⟩,q1,hf⟩:=zw hf;cases o with
 | nx e1=>
   refine z8a (thn (h1 pins s σ H { nx:=fun σ' H'=>tR X.K X.mg r σ' H' E,rt:=fun _ _=>False,bk:=fun _ _=>False,ct:=fun _ _=>False } I ⟨ρ,ev,S,.nx e1,S1,hE,hS,q1,fun σ' ρ' H' E1 hS1 hE1=>⟨ρ',e1,S1,nm,S',hE1,hS1,hf,C,hC,fun e ρ2 H2 E2 hS2=>k e ρ2 H2 (E1.trans E2) hS2⟩⟩) fun f s1 q=>?_);cases f with
   | next=>
     obtain⟨σ',H',I',q⟩:=q;exact h2 pins s1 σ' H' E Q hx I' q
   |ret v=>obtain⟨_,_,_,_,_,q⟩:=q;exact q.elim
   |brk=>obtain⟨_,_,_,q⟩:=q;exact q.elim
   |cont=>obtain⟨_,_,_,q⟩:=q;exact q.elim
 |_=>cases hf
theorem zyg{cc:Expr}(hc:FB X cc u)(ha:RTs X a r)(hb:RTs X b r'):RS X (.If cc a b pos) (rIf u r r'):=by
 intro pins s σ H E Q hx I t;obtain⟨ρ,ev,S,nm,S',hE,hS,hf,C,hC,k⟩:=t;obtain⟨⟨d,S1⟩,q1,hf⟩:=zw hf;refine wpAny_If (thn (hc pins s σ H (fun d' H1=>d'=d/\∃ρ1,Ext ρ H ρ1 H1/\StOk X.K X.mg ρ1 H1 S1) I ⟨ρ,ev,S,d,S1,hE,hS,q1,fun ρ1 H1 E1 hS1=>⟨rfl,ρ1,E1,hS1⟩⟩) fun d' s1 ⟨H1,I1,ed,ρ1,E1,hS1⟩=>?_);subst ed;cases d' with
 |true=>exact ha pins s1 σ H1 E Q hx I1 ⟨ρ1,ev,S1,nm,S',hE.mono E1,hS1,hf,C,hC,fun e ρ2 H2 E2 hS2=>k e ρ2 H2 (E1.trans E2) hS2⟩
 |false=>exact hb pins s1 σ H1 E Q hx I1 ⟨ρ1,ev,S1,nm,S',hE.mono E1,hS1,hf,C,hC,fun e ρ2 H2 E2 hS2=>k e ρ2 H2 (E1.trans E2) hS2⟩
theorem zyf{cc:Expr}(hc:FB X cc u)(ha:RSs X a r)(hb:RSs X b r'):RSs X (.If cc a b pos::rest) (rIf u r r'):=by
 intro pins s σ H E Q hx I t;obtain⟨ρ,ev,S,nm,S',hE,hS,hf,C,hC,k⟩:=t;obtain⟨⟨d,S1⟩,q1,hf⟩:=zw hf;refine z8a (wpAny_If (thn (hc pins s σ H (fun d' H1=>d'=d/\∃ρ1,Ext ρ H ρ1 H1/\StOk X.K X.mg ρ1 H1 S1) I ⟨ρ,ev,S,d,S1,hE,hS,q1,fun ρ1 H1 E1 hS1=>⟨rfl,ρ1,E1,hS1⟩⟩) fun d' s1 ⟨H1,I1,ed,ρ1,E1,hS1⟩=>?_));subst ed;cases d' with
 |true=>exact ha pins s1 σ H1 E _ hx I1 ⟨ρ1,ev,S1,nm,S',hE.mono E1,hS1,hf,C,hC,fun e ρ2 H2 E2 hS2=>k e ρ2 H2 (E1.trans E2) hS2⟩
 |false=>exact hb pins s1 σ H1 E _ hx I1 ⟨ρ1,ev,S1,nm,S',hE.mono E1,hS1,hf,C,hC,fun e ρ2 H2 E2 hS2=>k e ρ2 H2 (E1.trans E2) hS2⟩
theorem zqz:RSs X rest zyi:=fun pins s σ H E Q hx I t=>by obtain⟨ρ,ev,S,nm,S',hE,hS,hf,_⟩:=t;cases hf
theorem zm9(he:RE X e r):RS X (.Return (some e) pos) r:=fun pins s σ H E Q hx I t=>qa3 (he pins s σ H E _ hx I t)
theorem zna(he:RE X e r)(hs:swapsWith e none pos.line X.env=pure false:=by rfl):RS X (.Expr e pos) r:=fun pins s σ H E Q hx I t=>wpAny_Expr_any (he pins s σ H E _ hx I t) I.quiet hs
end
abbrev GR:=List D->Sto->Option (Str×Sto)
def spR(K:zFr)(mg:zMg)(rr:GR):Sp:=fun vs H _ E=>∃ρ ds S c S',RepL K mg ρ H ds vs/\StOk K mg ρ H S/\rr ds S=some (c,S')/\∃C,mg c=some (.ref C)/\∀e ρ' H',Ext ρ H ρ' H'->StOk K mg ρ' H' S'->E e (some C) H'
structure RCal (P:Program) (w:World) (K:zFr) (mg:zMg) (base:Heap) (k:Nat) (x:Str) (g:GR):Prop where
 ex:∃(f:Addr) (fd:FuncData) (ps:List Str) (ds:List Value) (dvs:List V) (dds:List D) (gg:GR),FnOk P w K mg base (CX1 P w) k f fd ps (spR K mg gg)/\mg x=some (.ref f)/\PySem.W.keepIn K (.ref f)=true /\
   Binds K fd ps ds/\Vals dvs ds/\(∀ρ H,RepL K mg ρ H dds dvs)/\∀args S r,g args S=some r->gg (args++dds) S=some r
def zcf(g:GR)(a:As):R:=fun ev S=>(a ev S).bind fun q=>g q.1 q.2
theorem z40{X:Cx}{CX:CXT}{k:Nat}{f:Addr}{fd:FuncData}{ps:List Str}{sp:Sp}{dvs:List V}{ds:List Value}{E:XK}{pins:zAO}{σ:L2.St}{H:Hp}{s:Shared}{Q:VK}{us:List Value}{vs:List V}
   (F:FnOk X.prog X.w X.K X.mg X.base CX k f fd ps sp) (hr:Room k X.A) (hb:Binds X.K fd ps ds) (hd:Vals dvs ds) (I:Inv X pins σ H s) (hx:∀e s',CX X.stack H s E e s'->X.xe e s') (r:Vals vs us) (h:sp (vs++dvs) H Q E) :
   wpAny (model X.prog X.w) X.A (call (.ref f) us) (EP X pins σ Q) X.xe s:=by
 have r2:=r.append hd;have hl:(us++ds).length=ps.length:=r2.length.symm.trans (F.len _ _ _ _ h);refine qa4 (z95 (F.run X.A X.stack s H ⟨us,[]⟩ _ _ Q E hr I.env0 (hb s us I.kIn hl) r2 h) fun r s' hq=>?_)
 match r,hq with
 | .error e,hq=>exact hx e s' hq
 | .ok (.ret u),hq=>exact I.after hq
 | .ok .next,hq=>exact hq.elim
 | .ok .brk,hq=>exact hq.elim
 | .ok .cont,hq=>exact hq.elim
section
variable {X:Cx}{e:Expr}{es:List Expr}{pos p:Pos}{k:Nat}{x:Str}{g:GR}{a:As}
theorem y6(cal:RCal X.prog X.w X.K X.mg X.base k x g)(hr:Room k X.A)(ha:FA X (e::es) a)(hg:Gl X x:=by rfl)(hdb:(x==("__debug__":Str))=false:=by decide)
   (he:starEach (e::es) X.env=(false,eval e X.env)::starEach es X.env:=by exact qd rfl) (hpl:(backTo pos (starEach es X.env)).any (·.1)=false:=by exact qv rfl) :
   RE X (.Call (.Name x p) (e::es) [] pos) (zcf g a):=by
 obtain⟨f,fd,ps,ds,dvs,dds,gg,F,hm,hk,hb,hd,hdd,hgg⟩:=cal.ex;intro pins s σ H E Q hx I t;obtain⟨ρ,ev,S,nm,S',hE,hS,hf,C,hC,kk⟩:=t;obtain⟨⟨ws,S1⟩,q1,hf⟩:=zw hf;have h:=ha pos pins s σ H (fun vs H1=>spR X.K X.mg gg (vs++dvs) H1 (fun _ _=>False) E) I ⟨ρ,ev,S,ws,S1,hE,hS,q1,fun vs ρ1 H1 E1 hS1 r1=>⟨ρ1,ws++dds,S1,nm,S',r1.append (hdd ρ1 H1),hS1,hgg ws S1 _ hf,C,hC,fun e ρ2 H2 E2 hS2=>kk e ρ2 H2 (E1.trans E2) hS2⟩⟩;refine z7y (y9 I hg hm ?_ hdb);refine z80 (h₀:=X.base) I.ok.mod.kin hk (thn h fun us s1 ⟨vs,H1,I1,r,q⟩=>⟨I1.kIn,?_⟩) he hpl;refine thn (z40 F hr hb hd I1 (fun e s' hc=>hx.pass I1 hc) r q) fun v s1 q=>?_;obtain⟨_,_,_,_,q⟩:=q;exact q.elim
end
def zcl(N n:Nat)(r:R):GR:=fun ds S=>if ds.length=n then r (ds.map some++List.replicate (N-ds.length) none) S else none
theorem z17{P:Program}{w:World}{K:zFr}{mg:zMg}{base:Heap}{N:List Str}{qual:Str}{scope:Scope}{f:Addr}{cd:Value}{A:Around}{outer:List Env}{s₀:Shared}{H₀:Hp}{E:XK} :
   ∀pins σ,XE (zca (CX1 P w) P w K mg base N qual scope f cd A outer s₀ H₀ E) pins σ E:=fun _ _=>⟨fun I mk hE=>zqf I mk hE,fun I h=>z2y _ _ _ _ _ _ I h⟩
theorem FunD.rok{P:Program}{w:World}{K:zFr}{mg:zMg}{base:Heap}{x qual:Str}{st:Stmt}{f:Addr}{fd:FuncData}{dV:Value}{N ps:List Str}{k:Nat}{r:R}(F:FunD K x qual st f fd dV)(S:FnScope N ps (zh st))
   (hbody:∀(cdv:Value) (A:Around) (outer:List Env) (s:Shared) (H:Hp) (E:XK),Room k (A.deeper (envOfC qual (zh st) s.heap.objs.size f cdv)) ->
     RSs (zca (CX1 P w) P w K mg base N qual (zh st) f cdv A outer s H E) (j5 st) r):FnOk P w K mg base (CX1 P w) (k+1) f fd ps (spR K mg (zcl N.length ps.length r)):=by
 obtain⟨oc,od,kV,doc,pm,an,cdv,ct,osl,rfl,lk,hcd⟩:=F.ex;refine zz2 lk hcd S (fun vs H Q E h=>?_) fun A outer s H vs Q E hr hsp=>?_
 · obtain⟨ρ,ds,S,c,S',r1,hS,hf,k⟩:=h;unfold zcl at hf;split at hf
   · rename_i hl;rw[<-r1.length];exact hl
   · cases hf
 · refine⟨fun _ σ' H'=>tR K mg r σ' H' E,fun pins s1 σ1 H1 D I t=>hbody cdv A outer s H E hr pins s1 σ1 H1 E _ (z17 pins) I t,?_⟩;obtain⟨ρ,ds,S,c,S',r1,hS,hf,kk⟩:=hsp;unfold zcl at hf;split at hf
   · rename_i hl;have hs:=EnvR.start (N:=N) r1;exact⟨ρ,_,S,c,S',hs,hS,hf,kk⟩
   · cases hf
section
variable {X:Cx}{e:Expr}{pos pos':Pos}{r:R}{x:Str}
theorem zm8(he:RE X e r)(hs:swapsWith e (some (.Name x pos')) pos.line X.env=pure false:=by rfl):RS X (.Assign [.Name x pos'] e pos) r:=fun pins s σ H E Q hx I t=>wpAny_Assign_Name (he pins s σ H E _ hx I t) hs
end
def ExcCls(K:zFr)(mg:zMg)(c:Str):Prop :=
 ∃(C N:Addr) (nm q:Str) (bs bm bmB:List Value) (hdct:Bool) (sn:List Str) (sub:List Value) (ab:Bool) (col:Option Bool) (dd:Option Addr) (k0 k1 k2 k3 k5:Option Value) (B newId initId:String) (mN:zMg),
   mg c=some (.ref C)/\ExcBaseFacts B newId initId bmB/\bm.contains (.type "BaseException")=true/\mN "__init__"=none /\
   ∀h:Heap,K.In h->h.get? C=some (excClassObj nm q C N bs bm hdct sn sub ab col dd k0 k1 k2 k3 k5 newId)/\h.Ns N mN/\OwnTail h bmB bm
def zjs(c:Str)(a:As):R:=fun ev S=>(a ev S).bind fun q=>if q.1.length<=sizeLine then some (c,q.2)else none
section
variable {X:Cx}{e:Expr}{es:List Expr}{a:As}{c:Str}{np cpos pos:Pos}
theorem zq0(hc:ExcCls X.K X.mg c)(ha:FA X (e::es) a)(hg:Gl X c:=by rfl)(he:starEach (e::es) X.env=(false,eval e X.env)::starEach es X.env:=by exact qd rfl)(hcm:X.calm=true:=by rfl)(hdb:(c==("__debug__":Str))=false:=by decide)(hpl:(backTo cpos (starEach (e::es) X.env)).any (·.1)=false:=by exact qv rfl) :
   RS X (.Raise (some (.Call (.Name c np) (e::es) [] cpos)) none pos) (zjs c a):=by
 obtain⟨C,N,nm,q,bs,bm,bmB,hdct,sn,sub,ab,col,dd,k0,k1,k2,k3,k5,B,newId,initId,mN,hm,F,hb,hi,hk⟩:=hc;intro pins s σ H E Q hx I t;obtain⟨ρ,ev,S,nm',S',hE,hS,hf,CC,hC,kk⟩:=t;obtain⟨⟨ws,S1⟩,q1,hf1⟩:=zw hf;dsimp only at hf1;split at hf1
 · rename_i hl;cases hf1;rw[hm]at hC;cases hC;refine wpAny_Raise_call_subT (nm:=nm) (q:=q) (N:=N) (bs:=bs) (hdct:=hdct) (sn:=sn) (sub:=sub) (ab:=ab) (col:=col) (dd:=dd) (k0:=k0) (k1:=k1) (k2:=k2) (k3:=k3) (k5:=k5) F hb (I.ok.hd hcm) hpl hi (y9 I hg hm ⟨rfl,?_⟩ hdb);have hA:=ha cpos pins s σ H (fun vs H1=>vs.length<=sizeLine/\∃ρ1,Ext ρ H ρ1 H1/\StOk X.K X.mg ρ1 H1 S') I ⟨ρ,ev,S,ws,S',hE,hS,q1,fun vs ρ1 H1 E1 hS1 r1=>⟨by rw[<-r1.length];exact hl,ρ1,E1,hS1⟩⟩;rw[he]at hA ⊢;refine Calls.evalArgs_plain (thn hA fun us s2 ⟨vs,H2,I2,r2,lv,ρ1,E1,hS1⟩=>?_);obtain⟨z1,z2,z3⟩:=hk s2.heap I2.kIn;exact⟨rfl,by show us.length<=_;rw[<-r2.length];exact lv,z1,z2,z3,fun h' e mk=>hx.first I2 mk (kk _ ρ1 H2 E1 hS1)⟩
 · cases hf1
end
end F
namespace F
open PySem L2 PySem.Spec PySem.Calls PyProof.Rows PySem.W
section
variable {prog:Program}{w:World}{A:Around}{E:zVP}{s:Shared}{K:zFr}{x D:Addr}
structure ExcIs (K:zFr) (D:Addr):Prop where
 ga:findIn K (.ref D) "__getattribute__"=some (some (.builtin "BaseException.__getattribute__"))
 gn:findIn K (.ref D) "__getattr__"=some none
 ha:findIn K (.ref D) "__class__"=some (some (.builtin "object.__class__"))
 hn:specialIn K (.builtin "object.__class__") "__get__"=some (some (.builtin "getset_descriptor.__get__"))
 htk:takesIn K (.builtin "object.__class__")=some true
 hm:mroIn K D (.type "object")=some true
 hb:mroIn K D (.type "BaseException")=some true
 cl:(clsIn K D).isSome=true
def OfCls(x D:Addr)(h:Heap):Prop:=∃o,h.get? x=some o/\o.cls=.ref D
theorem OfCls.type{M:Model}{h:Heap}(I:OfCls x D h):Looks M h (typeOf (.ref x)) (.ref D):=by obtain⟨o,h1,h2⟩:=I;have L:=(Looks.ld (M:=M) (part:=some headPart) h1).andThen (f:=fun o=>pure o.cls) (b:=o.cls) .now;rw[h2]at L;exact L
theorem zr5{M:Model}{h:Heap}(X:K.In h)(Z:ExcIs K D):Looks M h (Builtin.ObjectAttr.find (.ref x) (.ref D) "__class__") (.bind (.builtin "getset_descriptor.__get__") (.builtin "object.__class__")):=by refine(looks_findIn X Z.ha).andThen ?_;refine(show Looks M h (Builtin.ObjectAttr.getOf (some (.builtin "object.__class__"))) _ from looks_specialIn X Z.hn).andThen ?_;have L3:Looks M h (Builtin.ObjectAttr.dataDescriptor? (some (.builtin "object.__class__")) (some (.builtin "getset_descriptor.__get__"))) (some (.builtin "getset_descriptor.__get__",.builtin "object.__class__")):=(looks_takesIn X Z.htk).andThen .now;exact L3.andThen (Looks.tag .now)
theorem zwq{R:Result->Shared->Prop}{tp:Value}(X:K.In s.heap)(I:OfCls x D s.heap)(Z:ExcIs K D)(h:R (.ok (.ret (.ref D))) s) :
   codeAny (model prog w) A (.call (.builtin "getset_descriptor.__get__") ⟨[.builtin "object.__class__",.ref x,tp],[]⟩) R s:=by
 obtain⟨o,h1,h2⟩:=id I;obtain⟨hh,g,dr,t,os⟩:=s;have L0:=I.type (M:=model prog w);have L1:=looks_mroIn (M:=model prog w) X Z.hm;refine codeAny_call_builtin (KF.slot_gs.plain) (KF.entry_gs) (KF.slot_gs.check _ _ _ _ _ _ _ _ KF.type_class (KF.args_gs _ _ _) ?_);unfold Builtin.«getset_descriptor.__get__» Builtin.Getset_descriptor.descrGet;rw [dga_obj];refine z5o (z52 ?_);unfold Builtin.Getset_descriptor.descrGetter Builtin.Getset_descriptor.descrCheckInstance Builtin.Getset_descriptor.descrNameAndClass isInstance;simp only[KF.owner_class];repeat lk
 refine ⟨Code.quiet_builtin _ (by decide +kernel),codeAny_builtin (KF.entry_class) ?_⟩;unfold Builtin.«object.__class__» shownTypeOf;(repeat lk);exact h
theorem zpa{tk:Tok}{Q:Fin->Shared->Prop}(X:K.In s.heap)(I:OfCls x D s.heap)(Z:ExcIs K D)(h:Q (.done (.ret (.ref D))) s) :
   wpAny (model prog w) A (Builtin.«object.__getattribute__» ⟨[.ref x,.str "__class__" tk],[]⟩) Q E s:=by
 obtain⟨hh,g,d,t,os⟩:=s;have L0:=I.type (M:=model prog w);have L1:=zr5 (M:=model prog w) (x:=x) X Z;unfold Builtin.«object.__getattribute__»;refine z5o (z52 (z5o (z52 (z5o (L0.at (z5o (L1.at ?_)))))));show wpAny _ _ (holding [.builtin "object.__class__"] (call (.builtin "getset_descriptor.__get__") [.builtin "object.__class__",.ref x,.ref D]) >>= ret) _ _ _;exact z5o (wpAny_holding (qa4 (zwq X I Z (z52 h))))
theorem zpc{M:Model}{nameV:Value}{Q:Unit->Shared->Prop}(X:K.In s.heap)(I:OfCls x D s.heap)(Z:ExcIs K D)(hq:Q () s) :
   wpAny M A (checkBuiltinCall "BaseException.__getattribute__" ⟨[.ref x,nameV],[]⟩) Q E s:=by
 have hk:(builtinKind "BaseException.__getattribute__")=some .slot:=by decide +kernel
 have hsplit:(splitId "BaseException.__getattribute__")=some ("BaseException", "__getattribute__"):=by decide +kernel
 have ha:=PySem.F.args_bexc_ga (.ref x) nameV;have LI:Looks M s.heap (isInstance (.ref x) (.type "BaseException")) true:=(I.type (M:=M)).andThen (looks_mroIn (M:=M) X Z.hb);simp only[checkBuiltinCall,hk,hsplit];refine z5o (LI.at ?_)
 repeat (any_goals (first | assumption | wp_step))
theorem zpb{Q:Option Value->Shared->Prop}(X:K.In s.heap)(I:OfCls x D s.heap)(Z:ExcIs K D)(h:Q (some (.ref D)) { s with toks:=s.toks+1 }) :
   wpAny (model prog w) A (getAttr? (.ref x) "__class__") Q E s:=by
 obtain⟨hh,g,d,t,os⟩:=s;have L0:=I.type (M:=model prog w);have L1:=looks_findIn (M:=model prog w) X Z.ga;have L2:=looks_findIn (M:=model prog w) X Z.gn;have f3:=qah.ga.bind (.ref x);have hx2:(Value.builtin "BaseException.__getattribute__"==Value.builtin "object.__getattribute__")=false:=(by decide +kernel)
 unfold getAttr? getAttrBy? getAttrBy;refine z5o (wpAny_mkText (z5o (qa9 (wpAny_holding (z5o (L0.at (z5o (L1.at (?_)))))))));show wpAny _ _ (if(true&&Value.builtin "BaseException.__getattribute__"==Value.builtin "object.__getattribute__")=true then _ else _) _ _ _;rw[hx2];simp only[Bool.and_false,z50,z61];unfold getAttrByItsOwn hookBefore;show wpAny _ _ ((do let before <-typeLookup (.ref D) "__getattr__";_):Sem Value) _ _ _;refine z5o (L2.at ?_);refine z5o (qa9 (wpAny_holding ?_));unfold callGetattribute boundAndCalled;simp only[qax,z50,z61,f3,pure_bind];refine qa4 (codeAny_call_builtin qah.ga.plain PySem.F.entry_bexc_ga (zpc X I Z (zpa X I Z ?_)));exact z52 (z52 h)
theorem zj5(Z:ExcIs K D):KitX K (.ref x) (.ref D) (OfCls x D) where
 ty:=fun _ _ _ I=>I.type
 it:=fun M h X _=>by
   have z:=Z.cl;unfold clsIn at z;split at z
   · rename_i ho;intro A' Q' E' s' k q;exact z5o (qay (k _ _ (X _ _ ho)) (z52 q))
   · cases z
 ne:=fun h tp dd its n sl X htp=>by
   have z:=Z.cl;refine z64.mpr fun q=>?_;obtain rfl:D=tp:=Value.ref.inj (z74.mp q);unfold clsIn at z;split at z
   · rename_i ho;cases(X _ _ ho).symm.trans htp
   · cases z
 ca:=fun X I k=>zpb X I Z k
end
theorem zeu{α:Type}{q:α->Bool}:∀(l:List α) (i:Nat) (x:α),l[i]? = some x->q x=false->(l.eraseIdx i).find? q=l.find? q
 | [],_,_,h,_=>by simp at h
 | a::l,0,x,h,hq=>by simp at h;subst h;simp[List.find?_cons,hq]
 | a::l,i+1,x,h,hq=>by rw[List.eraseIdx_cons_succ,List.find?_cons,List.find?_cons,zeu l i x (by simpa using h) hq]
theorem zro{v:Value}{x y:Str}(h:v.isStr x=true)(n:y≠x):v.isStr y=false:=by
 cases v with
 | str z t=>
   have e:z=x:=by simpa [Value.isStr] using h
   subst e;simpa [Value.isStr] using fun e=>n e.symm
 |_=>cases h
section
variable {M:Model}{A:Around}{E:zVP}{s:Shared}
theorem z0z{a:Addr}{m:zMg}{name:Str}{u:Value}{Q:Bool->Shared->Prop}(hn:s.heap.Ns a m)(hu:m name=some u)
   (hQ:∀h' m',h'.Ns a m'->(∀y,y≠name->m' y=m y)->Heap.SameBut a s.heap h'->Q true { s with heap:=h' }):wpAny M A (nsDel a name) Q E s:=by
 obtain⟨o,es,ep,ho,hd,hk,hm⟩:=id hn;obtain⟨cl,d,dt,sl⟩:=o;subst hd;cases hi:es.findIdx? (·.key.isStr name) with
 | none=>
   have z:=hm name;rw[hu]at z;unfold nsFind at z;rw[findBy_of_findIdx?,hi]at z;cases z
 | some i=>
   have hq:es.any (·.key.isStr name)=true:=by obtain⟨hlt,hp,_⟩:=z9p.mp hi;exact Array.any_eq_true.mpr ⟨i,hlt,hp⟩
   have hhas:nsHas name ⟨cl,d,.dict es ep,sl⟩=pure true:=by rw[nsHas_eq];unfold nsHasByArray;simp only[hq,z7l]
   unfold nsDel;refine z5o (qay ho ?_);rw[hhas];refine z5o (z52 (z5o (wpAny_updatePart ho (z52 ?_))));refine hQ _ (fun y=>nsFind (es.eraseIdxIfInBounds i) y) ⟨_,_,ep+1,z8c _ ho ?_,?_,hk.erase i,fun _=>rfl⟩ (fun y hy=>?_) (Heap.SameBut.update ..)
   · simp only[Obj.dropName_eq,Obj.dropNameByArray,hi];rfl
   · simp only[Obj.dropName_eq,Obj.dropNameByArray,hi]
   · obtain⟨hlt,hp,_⟩:=z9p.mp hi;rw[<-hm y];unfold nsFind findBy;refine z7k (Option.map _) ?_;obtain⟨l⟩:=es;have hl:i<l.length:=by simpa using hlt
     rw[Array.eraseIdxIfInBounds,dif_pos (by simpa using hl)];have e:=zeu (q:=fun e:DictEntry=>e.key.isStr y) l i l[i] (z5v hl) (zro (by simpa using hp) hy);simpa using e
end
section
variable {X:Cx}{pins:zAO}{σ:L2.St}{H:Hp}{s:Shared}
theorem zou{M:Model}{A:Around}{E:zVP}{i:Nat}{x:Str}{pos:Pos}{Q:Unit->Shared->Prop}(I:Inv X pins σ H s)(hN:X.N.Nodup)(hi:X.N[i]? = some x)(hx:X.env.scope.names.lookup x=some .local)
   (h:∀s',Inv X pins (σ.set i none) H s'->Q () s'):wpAny M A (do bindName X.env x .none;unbindBehindTheSuite X.env x pos) Q E s:=by
 refine z5o (wpAny_bindName (zcp I hN hi (.inl hx) (show RelV .non .none from rfl) (fun s1 I1=>?_) (.inr hx)));have hcls:(X.env.scope.kind==.class||(X.env.scope.kind==.module&&X.env.locals != X.env.globals))=false:=by rw[I.ok.kind];rfl
 have hk:X.env.kindOf x=some .local:=hx;have hiσ:i<σ.length:=by rw[I.len];exact(z5s.mp hi).1
 obtain⟨m,hn,hl⟩:=id I1.loc;obtain⟨u,_,lk⟩:=hl i x .non hi (by rw[z6r hiσ]) (.inl hx);have hu:m x=some u:=by
   rcases lk with⟨_,e⟩ | ⟨k,_⟩
   · exact e
   · rw[hk]at k;rcases k with k | k<;>cases k
 unfold unbindBehindTheSuite;refine wpAny_onRaise ?_;unfold unbindName deleteName;refine z5o (wpAny_point (z5o ?_));simp only[hk,hcls];rw[z6c (by decide)];refine z5o (z0z hn hu fun h2 m2 hn2 hm2 hs=>?_);simp only[z8d,z50,z61];refine z52 (wpAny_point (h _ ?_));obtain⟨oL,_,_,hoL,_⟩:=id hn;have ne:∀{b:Addr}{o:Obj},X.s₀.heap.get? b=some o->b≠X.env.locals:=fun e=>z56 (z5q (z58 e) I.ok.above);refine⟨I1.ok,I1.os,I1.bare,⟨fun b o e n hb hx=>(hs.2 b (ne e)).trans (I1.base.keep b o e n hb hx),fun b o e n hb hx=>?_,I1.base.free,fun b o e hx=>?_,I1.base.tups,I1.base.frzs,I1.base.tbls⟩,⟨_,hn2,fun j y v' e1 e2 e3=>?_⟩,fun y c e=>?_,I1.free,I1.freeC,fun p hp=>?_,fun b ob e=>?_,by simpa using I1.len⟩
 · obtain⟨sl,e1⟩:=I1.base.slot b o e n hb hx;exact⟨sl,(hs.2 b (ne e)).trans e1⟩
 · obtain⟨o',e1⟩:=I1.base.there b o e hx;exact⟨o',(hs.2 b (ne e)).trans e1⟩
 · by_cases hj:j=i
   · subst hj;rw[z6r hiσ]at e2;cases e2
   · rw[z68 (z7s hj)]at e2;obtain⟨u',r',q⟩:=hl j y v' e1 (by rw[z68 (z7s hj)];exact e2) e3;refine⟨u',r',?_⟩;rcases q with⟨k,e⟩ | ⟨k,c,e,z⟩
     · exact .inl ⟨k,(hm2 y fun e=>hj (zfe hN e1 (e▸hi))).trans e⟩
     · exact .inr ⟨k,c,e,z.sameBut hs (I1.cne y c e)⟩
 · obtain⟨w',z⟩:=I1.cell y c e;exact⟨w',z.sameBut hs (I1.cne y c e)⟩
 · obtain⟨e,n,ne,nf,d⟩:=I1.pin p hp;exact⟨(hs.2 p.1 ne).trans e,n,ne,nf,d⟩
 · refine(I1.hok b ob e).stay (fun c w' hc q=>(hs.2 c ?_).trans q) (fun _ q=>q) fun _ _ q=>q;rintro rfl;rcases hc with rfl | hc
   · rw[I1.free]at e;cases e
   · rw[I1.free]at hc;cases hc
end
theorem zh0{fs:List Addr}{H₀ H:Hp}{a C:Addr}{h₀ h h':Heap}(u:Un fs [] H₀ H h₀ h)(l:Lft fs h₀ H a C h h'):Un fs [] H₀ H h₀ h' where
 keep:=fun b o e n nb hx=>l.keep b o (u.keep b o e n nb hx) nb (.inl ⟨_,e⟩)
 slot:=fun b o e n nb hx=>by obtain⟨sl,q⟩:=u.slot b o e n nb hx;obtain⟨sl',q'⟩:=l.slot b _ q nb;exact⟨sl',q'⟩
 free:=u.free
 there:=fun b o e hx=>by
   obtain⟨o',q⟩:=u.there b o e hx;by_cases z:b∈fs
   · obtain⟨sl,q'⟩:=l.slot b _ q z;exact⟨_,q'⟩
   · exact⟨_,l.keep b _ q z (.inl ⟨_,e⟩)⟩
 tups:=u.tups
 frzs:=u.frzs
 tbls:=u.tbls
structure Mid (X:Cx) (H H':Hp) (s:Shared) (h:Heap) (a C:Addr):Prop where
 un:Un (frs X.stack) [] H H' s.heap h
 hok:HOk X.prog X.w H' h
 fly:Fly s.heap h H' a C
section
variable {X:Cx}{pins:zAO}{σ:L2.St}{H H':Hp}{s s':Shared}{a C:Addr}{M:Model}{E:zVP}{Q:Unit->Shared->Prop}
theorem Mid.inv{h:Heap}(m:Mid X H H' s h a C)(I:Inv X pins σ H s)(os:s'.os=s.os)(hg:AllBare s'.gens)(hh:s'.heap=h):Inv X pins σ H' s':=by subst hh;exact I.call' os m.un m.hok hg fun b hb=>absurd hb (by simp)
theorem zri(m:Mid X H H' s s'.heap a C)(I:Inv X pins σ H s)(os:s'.os=s.os)(hg:AllBare s'.gens)(hst:X.stack=X.env::X.outer/\X.env.frame=some X.env.locals)
   (h:∀h',Mid X H H' s h' a C->Q () { s' with heap:=h' }):wpAny M X.A (leaving X.env (.ref a)) Q E s':=by
 have I1:=m.inv I os hg rfl;have hfr:=I1.ok.frames;have hl:=I1.stack;rw[hst.1]at hfr hl;refine zeq (base:=X.base) (h₀:=s.heap) (H:=H') (L:=X.env.locals) hfr hl hst.2 m.fly (fun b u e=>zak (m.hok b u e)) (fun b o e=>m.un.there b o e (by simp)) fun h' f1 l1 _=>?_;rw[<-hst.1]at l1;exact h h' ⟨zh0 m.un l1,zbp m.hok l1 I1.stkFree,f1⟩
theorem zoa{h₁:Heap}{args:List Value}(I:Inv X pins σ H s)(mk:Heap.MadeExcOf s.heap h₁ a (.ref C) args)(hst:X.stack=X.env::X.outer/\X.env.frame=some X.env.locals)
   (h:∀h',Mid X H H s h' a C->Q () { s with heap:=h' }):wpAny M X.A (leaving X.env (.ref a)) Q E { s with heap:=h₁ }:=by
 have I1:Inv X pins σ H { s with heap:=h₁ }:=I.kept (t':=s.toks) mk.keeps;obtain⟨t,he,_⟩:=mk.there;have hu:H a=none:=by
   cases q:H a with
   |none=>rfl
   |some u=>obtain⟨o,z⟩:=zak (I.hok a u q);rw[mk.new]at z;cases z
 have hfr:=I1.ok.frames;have hl:=I1.stack;rw[hst.1]at hfr hl;refine zdk (base:=X.base) (h₀:=s.heap) (H:=H) (L:=X.env.locals) hfr hl hst.2 he rfl rfl rfl mk.new hu (fun b u e=>zak (I1.hok b u e)) (fun b o e=>⟨o,mk.keeps b o e⟩) fun h' f1 l1 _=>?_;rw[<-hst.1]at l1;exact h h' ⟨zh0 (Un.kept mk.keeps) l1,zbp I1.hok l1 I1.stkFree,f1⟩
theorem zv0{A:Around}(m:Mid X H H' s s'.heap a C)(I:Inv X pins σ H s)(os:s'.os=s.os)(hg:AllBare s'.gens)
   (h:∀h',Mid X H H' s h' a C->Q () { s' with heap:=h' }):wpAny M A (setFlight (.ref a) none) Q E s':=by
 have I1:=m.inv I os hg rfl;obtain⟨oe,vs,T,oT,ts,he,hc,hd,h1,hT0,hTH,hTa,hT,hdT,h3⟩:=m.fly.tr;have h3s:3<ts.size:=(Array.getElem?_eq_some_iff.mp h3).1;unfold setFlight;refine z5o (z91 he hd h1 ?_);rw[z55 (show(Value.ref T != Value.none)=true by simp)];refine wpAny_setField hT hdT h3s (h _ ?_);have oth:∀b,b≠T->(s'.heap.update T (Obj.mapFields (·.setIfInBounds 3 ((none:Option Addr).elim Value.none fun f=>rawInt f)))).get? b=s'.heap.get? b:=fun b hb=>z77 _ _ (z7s hb);have l1:Lft (frs X.stack) s.heap H' a C s'.heap (s'.heap.update T (Obj.mapFields (·.setIfInBounds 3 ((none:Option Addr).elim Value.none fun f=>rawInt f)))):=by
   refine⟨fun b o e nb hb=>?_,fun b o e hb=>?_⟩
   · refine(oth b fun z=>?_).trans e;subst z;rcases hb with⟨_,hb⟩ | ⟨_,hb⟩
     · rw[hT0]at hb;cases hb
     · rw[hTH]at hb;cases hb
   · refine⟨o.slots,(oth b fun z=>?_).trans e⟩;subst z;obtain⟨_,o2,ho2,hnf⟩:=I1.stack.mem hb;rw[hT]at ho2;cases ho2;exact hnf _ hdT
 refine⟨zh0 m.un l1,zbp m.hok l1 I1.stkFree,m.fly.new,m.fly.un,oe,vs,T,_,_,(oth a (z7s hTa)).trans he,hc,hd,h1,hT0,hTH,hTa,z8c _ hT (Obj.isFreed_of_fields (Obj.data_mapFields hdT _)),Obj.data_mapFields hdT _,by simp[h3s]⟩
theorem Mid.held{h:Heap}(m:Mid X H H' s h a C):Un (frs X.stack) [] H (upd H' a (.ext (OfCls a C))) s.heap h/\HOk X.prog X.w (upd H' a (.ext (OfCls a C))) h:=by
 have ne:∀{b:Addr}{o:HO},H' b=some o->b≠a:=fun e z=>by subst z;rw[m.fly.un]at e;cases e
 refine⟨⟨m.un.keep,m.un.slot,fun b o e n hx=>?_,m.un.there,fun b xs e=>?_,fun b o u e=>?_,fun b ps e=>?_⟩,fun b u e=>?_⟩
 · rw[z0 (fun z=>by subst z;rw[m.fly.new]at e;cases e)];exact m.un.free b o e n hx
 · have q:=m.un.tups b xs e;rw[z0 (ne q)];exact q
 · have q:=m.un.frzs b o u e;rw[z0 (ne q)];exact q
 · obtain⟨more,q⟩:=m.un.tbls b ps e;exact⟨more,by rw[z0 (ne q)];exact q⟩
 · by_cases hb:b=a
   · subst hb;rw[qg]at e;cases e;obtain⟨oe,vs,T,oT,ts,he,hc,hd,_⟩:=m.fly.tr;refine⟨⟨oe,he,hc⟩,⟨oe,he⟩,fun h1 h2 ⟨o,q1,q2⟩ k=>⟨o,k o q1,q2⟩⟩
   · rw[z0 hb]at e;refine(m.hok b u e).stay (fun c w hc q=>q) (fun c q=>?_) fun c xs q=>?_
     · rw[z0 (ne q)];exact q
     · rw[z0 (ne q)];exact q
end
def Cat(K:zFr)(mg:zMg)(c T:Str):Prop :=
 ∃C CT,mg c=some (.ref C)/\mg T=some (.ref CT)/\mroIn K C (.ref CT)=some true/\mroIn K CT (.type "BaseException")=some true/\typeIn K (.ref CT)=some (.type "type")/\(clsIn K CT).isSome=true
section
variable {K:zFr}{A:Around}{E:zVP}{s:Shared}{M:Model}{x C CT:Addr}
theorem zo9{Q:Bool->Shared->Prop}(X:K.In s.heap)(I:OfCls x C s.heap)(h1:mroIn K C (.ref CT)=some true)(h2:mroIn K CT (.type "BaseException")=some true)(h3:typeIn K (.ref CT)=some (.type "type"))(h4:(clsIn K CT).isSome=true)(hq:Q true s) :
   wpAny M A (excMatches (.ref x) (.ref CT)) Q E s:=by
 have L0:=I.type (M:=M);have L1:=looks_mroIn (M:=M) X h1;have L2:=looks_mroIn (M:=M) X h2;have L3:=looks_typeIn (M:=M) X h3;have L4:Looks M s.heap (isInstance (.ref CT) (.type "tuple")) false:=L3.andThen (Looks.of_pure tc_notTuple);have L5:Looks M s.heap (isType (.ref CT)) true:=by
   unfold clsIn at h4;split at h4
   · rename_i ho;intro A' Q' E' s' k q;exact z5o (qay (k _ _ (X _ _ ho)) (z52 q))
   · cases h4
 have L6:Looks M s.heap (isExcClass (.ref CT)) true:=by unfold isExcClass;refine L5.andThen ?_;rw[z55 rfl];exact L2
 obtain⟨hh,g,d,t,os⟩:=s;unfold excMatches;refine z5o (L4.at ?_);simp only[z50,z61,pure_bind,qag,List.forIn_nil,bind_assoc];refine z5o (L6.at ?_);simp only[z8d,z50,z61,pure_bind];refine z5o (L0.at ?_);refine z5o (L1.at ?_);simp only[z7l,pure_bind];exact z52 hq
end
def zu4(c:C)(r:R)(cat:Str->Bool)(i:Nat)(d:C):C:=fun ev S=>match c ev S with
 |some (.nx e,S1)=>some (.nx e,S1)
 |some (.rt x,S1)=>some (.rt x,S1)
 |some _=>none
 | none=>(r ev S).bind fun p=>if cat p.1=true then (d (ev.set i (some (.obj p.2.length))) (p.2++[.exc p.1])).bind fun q=>(match q.1 with
   | .nx e=>some (.nx (e.set i none),q.2)
   | .rt x=>some (.rt x,q.2)
   |_=>none)else none
theorem EnvR.unset{K mg ρ H}{ev:Ev}{σ:L2.St}(h:EnvR K mg ρ H ev σ)(i:Nat):EnvR K mg ρ H (ev.set i none) (σ.set i none):=by
 refine⟨by rw[z7m,z7m];exact h.len,fun j x q=>?_⟩;by_cases hj:j=i
 · subst hj;have hi:j<ev.length:=by
     have:=(z5s.mp q).1
     rwa [z7m]at this
   rw[z6r hi]at q;cases q
 · rw[z68 (z7s hj)]at q ⊢;exact h.at_ j x q
abbrev Cx.inExc(X:Cx)(v:Option Value)(xe:zVP):Cx:={ X with A:=X.A.mark v,calm:=false,xe:=xe }
section
variable {X:Cx}{pins:zAO}{σ:L2.St}{H H':Hp}{s s':Shared}
theorem Inv.toExc(I:Inv X pins σ H s)(v:Option Value)(xe:zVP):Inv (Cx.inExc X v xe) pins σ H s :=
 ⟨⟨I.ok.mod,I.ok.kind,I.ok.glob,I.ok.blt,I.ok.above,I.ok.inj,I.ok.has,I.ok.cab,(fun h=>nomatch h),I.ok.frames,I.ok.stk,I.ok.exf,I.ok.bs,I.ok.bsz,I.ok.noex,I.ok.exfs,I.ok.funs,I.ok.frf⟩,I.os,I.bare,I.base,I.loc,I.cell,I.free,I.freeC,I.pin,I.hok,I.len⟩
theorem Inv.ofExc{v:Option Value}{xe:zVP}(I:Inv (Cx.inExc X v xe) pins σ H s)(ok:X.Ok):Inv X pins σ H s :=
 ⟨ok,I.os,I.bare,I.base,I.loc,I.cell,I.free,I.freeC,I.pin,I.hok,I.len⟩
variable {body suite:List Stmt}{b0:Stmt}{c d:C}{r:R}{T n:Str}{np pos' pos:Pos}{cat:Str->Bool}{Q:Flow->Shared->Prop}
theorem zet{i:Nat}{H0:Hp}{ρ ρ':List Addr}{ev:Ev}{S1 S':Sto}{o:Out}{cls:Str}{a C:Addr}{D:Ends}(hs:∀v xe,FSs (Cx.inExc X v xe) (b0::suite) d)(hN:X.N.Nodup)(hi:X.N[i]? = some n)(hx:X.env.scope.names.lookup n=some .local)
   (hcat:Cat X.K X.mg cls T) (hg:Gl X T) (hdb:(T==("__debug__":Str))=false) (I:Inv X pins σ H s) (m:Mid X H H' s s'.heap a C) (os:s'.os=s.os) (hb:AllBare s'.gens) (hE:EnvR X.K X.mg ρ H0 ev σ)
   (e1:Ext ρ H0 ρ' H') (hS:StOk X.K X.mg ρ' H' S1) (hC:X.mg cls=some (.ref C))
   (hf:((d (ev.set i (some (.obj S1.length))) (S1++[.exc cls])).bind fun q=>(match q.1 with
     | .nx e=>some (Out.nx (e.set i none),q.2)
     | .rt x=>some (.rt x,q.2)
     |_=>none))=some (o,S')) (k:Post X.K X.mg D S' ρ H0 o) :
   wpAny (model X.prog X.w) X.A (handleBy (.ref a) X.env [.ExceptHandler (some (.Name T np)) (some n) (b0::suite) pos']) (SP X pins D) X.xe s':=by
 obtain⟨C',CT,hc1,hc2,h1,h2,h3,h4⟩:=hcat;rw[hC]at hc1;cases hc1;have I1:=m.inv I os hb rfl;have Im:=Inv.toExc I1 (some (.ref a)) (notedBy (model X.prog X.w) (X.A.mark (some (.ref a))) X.env (cameBackBy (model X.prog X.w) X.A X.env X.xe));have oc:OfCls a C s'.heap:=by obtain⟨oe,vs,T,oT,ts,he,hc,_⟩:=m.fly.tr;exact⟨oe,he,hc⟩
 refine wpAny_handleBy_cons (codeAny_handlers_test (y9 (X:=Cx.inExc X (some (.ref a)) _) Im hg hc2 (zo9 I1.kIn oc h1 h2 h3 h4 ?_) hdb)) (by intro q;cases q);refine codeAny_handlers_suite_as (zv0 m I os hb fun h6 m6=>?_);obtain⟨un6,hok6⟩:=m6.held;have I6:Inv X pins σ (upd H' a (.ext (OfCls a C))) { s' with heap:=h6 }:=I.call' os un6 hok6 hb fun b hb=>absurd hb (by simp);have I6m:=Inv.toExc I6 (some (.ref a)) (AsSuiteRaised (model X.prog X.w) (X.A.mark (some (.ref a))) X.env n pos' (notedBy (model X.prog X.w) (X.A.mark (some (.ref a))) X.env (cameBackBy (model X.prog X.w) X.A X.env X.xe)));refine zcp (X:=Cx.inExc X (some (.ref a)) _) (v:=.ref a) I6m hN hi (.inl hx) rfl (fun s7 I7=>?_) (.inr hx);obtain⟨⟨o2,S2⟩,q2,hf⟩:=zw hf;have e2:Ext ρ' H' (ρ'++[a]) (upd H' a (.ext (OfCls a C))):=za7 hS _ m.fly.un;have hS2:StOk X.K X.mg (ρ'++[a]) (upd H' a (.ext (OfCls a C))) (S1++[.exc cls]):=hS.add m.fly.un ⟨C,hC,qg⟩;have hE2:EnvR X.K X.mg (ρ'++[a]) (upd H' a (.ext (OfCls a C))) (ev.set i (some (.obj S1.length))) (σ.set i (some (.ref a))):=by refine EnvR.set (hE.mono (e1.trans e2)) ?_ i;unfold Rep;refine⟨a,rfl,?_⟩;rw[z51 (by rw[hS.len]<;>exact z5p _),hS.len];simp
 have go:=hs (some (.ref a)) _ pins s7 _ _ { nx:=fun σ' H2=>D.nx (σ'.set i none) H2,rt:=D.rt,bk:=fun _ _=>False,ct:=fun _ _=>False } I7 ⟨_,_,_,o2,S2,hE2,hS2,q2,by
   cases o2 with
   |nx e=>cases hf;exact fun σ' ρ2 H2 x1 x2 x3=>k _ ρ2 H2 ((e1.trans e2).trans x1) x2 (x3.unset i)
   |rt x=>cases hf;exact fun v ρ2 H2 x1 x2 x3=>k v ρ2 H2 ((e1.trans e2).trans x1) x2 x3
   |_=>cases hf⟩
 refine thn go fun f s8 q=>?_;cases f with
 | next=>
   obtain⟨σ8,H8,I8,q⟩:=q;exact zou (Inv.ofExc I8 I.ok) hN hi hx fun s9 I9=>⟨_,H8,I9,q⟩
 | ret u=>
   obtain⟨v,σ8,H8,I8,r8,q⟩:=q;exact zou (Inv.ofExc I8 I.ok) hN hi hx fun s9 I9=>⟨v,_,H8,I9,r8,q⟩
 |brk=>obtain⟨_,_,_,q⟩:=q;exact q.elim
 |cont=>obtain⟨_,_,_,q⟩:=q;exact q.elim
end
section
variable {M:Model}{A:Around}{E:zVP}{s:Shared}{env:Env}
theorem zmo{bd els:Sem Flow}{k₀:ExceptHandler}{ks:List ExceptHandler}{Q:Flow->Shared->Prop}
   (h:wpAny M A bd (fun f s₁=>match f with | .next=>wpAny M A els Q E s₁ | f=>Q f s₁) (fun e s₁=>wpAny M A (leaving env e) (fun _ s₂=>wpAny M A (handleBy e env (k₀::ks)) Q E s₂) E s₁) s) :
   wpAny M A (tryStmt false bd (k₀::ks) els [] env) Q E s:=by
 unfold tryStmt;simp only[List.isEmpty_nil,z7l,List.isEmpty_cons,z50,z61,qax];refine z5o (qa9 (z73 h (fun f s₁ h₁=>?_) fun e s₁ h₁=>?_))
 · cases f<;>first | exact h₁ | exact z52 h₁
 · show wpAny M A (noteFrame e env >>= fun _=>setFlight e none >>= fun _=>handleBy e env (k₀::ks)) Q E s₁;rw[<-bind_assoc];exact z5o h₁
end
section
variable {X:Cx}{body suite:List Stmt}{b0:Stmt}{c d:C}{r:R}{T n:Str}{np pos' pos:Pos}{cat:Str->Bool}
theorem zz0(i:Nat)(hb:∀xe,FSs (X.wish xe) body c)(hr:∀xe,RTs (X.wish xe) body r)(hs:∀v xe,FSs (Cx.inExc X v xe) (b0::suite) d)(hN:X.N.Nodup)(hcat:∀c,cat c=true->Cat X.K X.mg c T)
   (hi:X.N[i]? = some n:=by rfl) (hx:X.env.scope.names.lookup n=some .local:=by rfl) (hst:X.stack=X.env::X.outer/\X.env.frame=some X.env.locals:=by exact⟨rfl,rfl⟩) (hg:Gl X T:=by rfl) (hdb:(T==("__debug__":Str))=false:=by decide) :
   FS X (.Try body [.ExceptHandler (some (.Name T np)) (some n) (b0::suite) pos'] [] [] pos) (zu4 c r cat i d):=by
 intro pins s σ H D I t;obtain⟨ρ,ev,S,o,S',hE,hS,hf,k⟩:=t;rw[arm_exec_Try];refine z5o (wpAny_standAt (zmo ?_));generalize hW:(fun e s₁=>wpAny (model X.prog X.w) X.A (leaving X.env e) (fun _ s₂=>wpAny (model X.prog X.w) X.A (handleBy e X.env [.ExceptHandler (some (.Name T np)) (some n) (b0::suite) pos']) (SP X pins D) X.xe s₂) X.xe s₁)=W;unfold zu4 at hf;split at hf
 · rename_i e1 S1 q;cases hf;refine thn (hb W pins s σ H { nx:=D.nx,rt:=fun _ _=>False } (I.wish W) ⟨ρ,ev,S,.nx e1,_,hE,hS,q,k⟩) fun f s1 z=>?_;cases f with
   | next=>
     obtain⟨σ1,H1,I1,z⟩:=z;exact z9q ⟨σ1,H1,I1.unwish,z⟩
   |ret u=>obtain⟨_,_,_,_,_,z⟩:=z;exact z.elim
   |brk=>obtain⟨_,_,_,z⟩:=z;exact z.elim
   |cont=>obtain⟨_,_,_,z⟩:=z;exact z.elim
 · rename_i x1 S1 q;cases hf;refine thn (hb W pins s σ H { nx:=fun _ _=>False,rt:=D.rt } (I.wish W) ⟨ρ,ev,S,.rt x1,_,hE,hS,q,k⟩) fun f s1 z=>?_;cases f with
   |next=>obtain⟨_,_,_,z⟩:=z;exact z.elim
   | ret u=>
     obtain⟨v,σ1,H1,I1,r1,z⟩:=z;exact⟨v,σ1,H1,I1.unwish,r1,z⟩
   |brk=>obtain⟨_,_,_,z⟩:=z;exact z.elim
   |cont=>obtain⟨_,_,_,z⟩:=z;exact z.elim
 · cases hf
 · obtain⟨⟨cls,S1⟩,q1,hf⟩:=zw hf;dsimp only at hf;split at hf
   · rename_i hc;have ct:=hcat cls hc;obtain⟨C,CT,hC,_⟩:=id ct;refine hr W pins s σ H (fun e oC H'=>∃ρ',oC=some C/\Ext ρ H ρ' H'/\StOk X.K X.mg ρ' H' S1) _ ?_ (I.wish W) ⟨ρ,ev,S,cls,S1,hE,hS,q1,C,hC,fun e ρ' H' x1 x2=>⟨ρ',rfl,x1,x2⟩⟩;subst hW;refine⟨fun {H1 s1 a C1 h₁ args} I1 mk hE1=>?_,fun {H1 s1 e s2} I1 hx1=>?_⟩
     · obtain⟨ρ',rfl',x1,x2⟩:=hE1;cases rfl';exact zoa I1.unwish mk hst fun h' m=>zet hs hN hi hx ct hg hdb I1.unwish m rfl I1.bare hE x1 x2 hC hf k
     · obtain⟨a,C1,H',rfl,os,bare,un,hok,fl,ρ',rfl',x1,x2⟩:=hx1;cases rfl';exact zri ⟨un,hok,fl⟩ I1.unwish os bare hst fun h' m=>zet hs hN hi hx ct hg hdb I1.unwish m os bare hE x1 x2 hC hf k
   · cases hf
end
def zsp:List Value:=[.type "ValueError",.type "Exception",.type "BaseException",.type "object"]
theorem zji{K:zFr}:∀{l:List Value},tailIn K zsp l=true->l.contains (.type "BaseException")=true
 | [],e=>by cases(z74.mp e)
 | v::r,e=>by
   unfold tailIn at e;rcases Bool.or_eq_true_iff.mp e with q | q
   · rw[z74.mp q];decide +kernel
   · split at q
     · split at q
       · simp only[z6p,z74]at q;rw[List.contains_cons,zji q.2,Bool.or_true]
       · cases q
     · cases q
theorem z0k{K:zFr}{mg:zMg}{c:Str}{C:Addr}(hm:mg c=some (.ref C))(q:excIn K C zsp "ValueError.__new__"=true):ExcCls K mg c:=by
 unfold excIn at q;split at q
 · rename_i dd cd sl ho;split at q
   · rename_i C' bm k0 k1 k2 k3 n k5 hmro hs;simp only[z6p,z74,z9a]at q;obtain⟨⟨⟨⟨⟨rfl,rfl⟩,hdel⟩,ht⟩,hok⟩,hni⟩:=q;obtain⟨nm,bs,mro,ns,qn,hd,sn,sub,ab,col,del⟩:=cd;dsimp only at hmro hdel hok hni;subst hmro;subst hdel;have hsl:sl=#[k0,k1,k2,k3,some (.builtin "ValueError.__new__"),k5]:=by
       cases sl with
       |mk l=>simp only at hs;subst hs;rfl
     subst hsl;unfold nsOkIn at hok;split at hok
     · rename_i oc od es ep osl hN;have hk:StrKeys es:=fun e he=>by
         have z:=Array.all_eq_true_iff_forall_mem.mp hok e he;cases hkey:e.key with
         |str n t=>exact⟨n,t,rfl⟩
         |_=>rw[hkey]at z;cases z
       have hi:nsFind es "__init__"=none:=by
         unfold nsIn at hni;rw[hN]at hni;dsimp only at hni;split at hni
         · cases hni
         · rename_i he;unfold nsFind findBy;rw[<-Array.find?_toList,he];rfl
       refine⟨_,ns,nm,qn,bs,bm,zsp,hd,sn,sub,ab,col,dd,k0,k1,k2,k3,k5, "ValueError", "ValueError.__new__", "ValueError.__init__",nsFind es,hm,PySem.F.excBase_ValueError,?_,hi,fun h X=>⟨X _ _ ho,⟨_,es,ep,X _ _ hN,rfl,hk,fun _=>rfl⟩,tail_of_in X ht⟩⟩;exact zji ht
     · cases hok
   · cases q
 · cases q
def ExcI(K:zFr)(mg:zMg)(c:Str):Prop:=∃C,mg c=some (.ref C)/\ExcIs K C/\kitOne K (.ref C) (.type "ValueError")=some true
def IsF(K:zFr)(mg:zMg)(c d:Str)(b:Bool):Prop:=∃C D,mg c=some (.ref C)/\mg d=some (.ref D)/\kitOne K (.ref C) (.ref D)=some b
structure Up where
 raised:List Str
 asked:List Str
def Up.is(u:Up)(c d:Str):Option Bool:=if c∈u.raised/\d∈u.asked then some (decide (d=c\/d="ShelfError"))else none
def zwj:List D->Option (List Str)
 | []=>some []
 | .fn d::r=>(zwj r).map (d::·)
 |_=>none
def Up.any(u:Up)(c:Str):List Str->Option Bool
 | []=>some false
 |d::r=>(u.is c d).bind fun b=>if b=true then some true else u.any c r
def Up.ask(u:Up)(c:Str):D->Option Bool
 | .fn d=>u.is c d
 | .ty n=>if c∈u.raised/\n="ValueError" then some true else none
 | .tup ds=>if c∈u.raised then (zwj ds).bind (u.any c)else none
 |_=>none
def zto(u:Up)(S:Sto):List D->Option D
 | [.obj i,d]=>match S[i]? with
   |some (.exc c)=>(u.ask c d).map .bl
   |_=>none
 |_=>none
def Up.cat(u:Up)(c:Str):Bool:=decide (c∈u.raised)
structure UpOk (K:zFr) (mg:zMg) (u:Up):Prop where
 ct:∀c∈u.raised,Cat K mg c "ShelfError"
 ei:∀c∈u.raised,ExcI K mg c
 is_:∀c∈u.raised,∀d∈u.asked,IsF K mg c d (decide (d=c\/d="ShelfError"))
section
variable {X:Cx}{e:Expr}{es:List Expr}{g:As}{p pos:Pos}{u:Up}
def z37(K:zFr)(mg:zMg):List V->Hp->VK->Prop:=fun xs H Q=>∃a C b y,xs=[.ref a,y]/\H a=some (.ext (OfCls a C))/\ExcIs K C /\
 ((∃w,RelV y w/\(∀w',RelV y w'->w'=w)/\kitOne K (.ref C) w=some b)\/(∃q ys its,y=.ref q/\SqT K H q ys/\Vals ys its/\(∀its',Vals ys its'->its'=its)/\kitAny K (.ref C) its=some b))/\Q (.bl b) H
theorem zsg:CallR X (.builtin "isinstance") (z37 X.K X.mg):=by
 intro pins s σ H xs us Q I r h;obtain⟨a,C,b,y,rfl,ha,hz,hk,q⟩:=h;obtain⟨u1,u2,rfl,r1,r2⟩:∃u1 u2,us=[u1,u2]/\RelV (.ref a) u1/\RelV y u2:=by
   cases r with
   | cons p q=>
     cases q with
     |cons p' q'=>cases q';exact⟨_,_,rfl,p,p'⟩
 cases(show u1=Value.ref a from r1);have oc:OfCls a C s.heap:=(I.hok a _ ha).1;rcases hk with⟨w,rw_,un,hk⟩ | ⟨q',ys,its,rfl,sq,vs,un,hk⟩
 · rw[un _ r2];exact kia_one (zj5 hz) I.kIn oc hk (fun z=>nomatch z) fun tk=>⟨.bl _,H,I.tok tk,rfl,q⟩
 · cases(show u2=Value.ref q' from r2);obtain⟨its2,v2,⟨o,h1,h2,h3⟩,_⟩:=I.tuple sq;rw[un _ v2]at h3;obtain⟨oc',od,odt,osl⟩:=o;obtain⟨n,h3⟩:=h3;dsimp only at h2 h3;subst h2;subst h3;exact kia_tup (zj5 hz) I.kIn oc h1 hk (fun z=>nomatch z) fun tk=>⟨.bl _,H,I.tok tk,rfl,q⟩
theorem ztt{K:zFr}{mg:zMg}{ρ:List Addr}{H:Hp}:∀{ds:List D}{xs:List Str}{ys:List V},zwj ds=some xs->RepL K mg ρ H ds ys->∃as:List Addr,ys=as.map V.ref/\xs.map mg=as.map fun a=>some (Value.ref a)
 | [],xs,ys,e,r=>by unfold RepL at r;subst r;cases e;exact⟨[],rfl,rfl⟩
 | d::ds,xs,ys,e,r=>by
   unfold RepL at r;obtain⟨v,r',rfl,h1,h2⟩:=r;cases d with
   | fn d=>
     obtain⟨l,e1,e2⟩:=zas e;subst e2;unfold Rep at h1;obtain⟨A,rfl,hA⟩:=h1;obtain⟨as,q1,q2⟩:=ztt e1 h2;exact⟨A::as,by rw[q1];rfl,by rw[z5x,z5x,hA,q2]⟩
   |_=>cases e
theorem zbd:∀(as:List Addr),Vals (as.map V.ref) (as.map Value.ref)/\∀its,Vals (as.map V.ref) its->its=as.map Value.ref
 | []=>⟨.nil,fun its h=>by cases h;rfl⟩
 | a::as=>⟨.cons rfl (zbd as).1,fun its h=>by
   cases h with
   |cons p q=>rw[(zbd as).2 _ q,show _=Value.ref a from p];rfl⟩
theorem zub{K:zFr}{mg:zMg}(h:UpOk K mg u){c:Str}{C:Addr}(hc:c∈u.raised)(hC:mg c=some (.ref C)):∀{xs:List Str}{as:List Addr}{b:Bool},xs.map mg=(as.map fun a=>some (Value.ref a))->u.any c xs=some b ->
   kitAny K (.ref C) (as.map Value.ref)=some b
 | [],as,b,q,e=>by
   cases as with
   |nil=>cases e;rfl
   |cons _ _=>cases q
 | d::xs,as,b,q,e=>by
   cases as with
   |nil=>cases q
   | cons A as=>
     rw[z5x,z5x,z8o]at q;obtain⟨b1,e1,e2⟩:=zw e;unfold Up.is at e1;split at e1
     · rename_i hz;obtain⟨C',D',x1,x2,x3⟩:=h.is_ c hc d hz.2;rw[hC]at x1;cases x1;rw[q.1]at x2;cases x2;rw[z62 e1]at x3;unfold List.map kitAny;rw[x3];cases b1 with
       |true=>rw[z55 rfl]at e2;exact e2
       |false=>rw[z6c (by decide)]at e2;exact zub h hc hC q.2 e2
     · cases e1
theorem zuy{K:zFr}{mg:zMg}(h:UpOk K mg u):zxi K mg (z37 K mg) (zto u):=by
 intro ρ H S xs ds d Q hS r e k;unfold zto at e;split at e
 · rename_i i d';split at e
   · rename_i c hi;obtain⟨b,e1,e2⟩:=zas e;subst e2;obtain⟨v,w,rfl,r1,r2⟩:=two r;unfold Rep at r1;obtain⟨a,rfl,ha⟩:=r1;obtain⟨C,hC,hH⟩:=hS.ob i _ a hi ha;unfold Up.ask at e1;split at e1
     · rename_i dn;unfold Rep at r2;obtain⟨A,rfl,hA⟩:=r2;unfold Up.is at e1;split at e1
       · rename_i hz;obtain⟨C',D',x1,x2,x3⟩:=h.is_ c hz.1 dn hz.2;rw[hC]at x1;cases x1;rw[hA]at x2;cases x2;rw[z62 e1]at x3;obtain⟨C',y1,y2,_⟩:=h.ei c hz.1;rw[hC]at y1;cases y1;exact⟨a,C,b,_,rfl,hH,y2,.inl ⟨.ref A,rfl,fun _ z=>z,x3⟩,k _ H (Ext.refl _ _) hS rfl⟩
       · cases e1
     · rename_i n;split at e1
       · rename_i hz;cases e1;obtain⟨C',y1,y2,y3⟩:=h.ei c hz.1;rw[hC]at y1;cases y1;rw[show w=.ty n from r2,hz.2];exact⟨a,C,true,_,rfl,hH,y2,.inl ⟨.type "ValueError",rfl,fun _ z=>z,y3⟩,k _ H (Ext.refl _ _) hS rfl⟩
       · cases e1
     · rename_i ds';split at e1
       · rename_i hz;obtain⟨xs,e1,e2⟩:=zw e1;obtain⟨p,vs,rfl,tt,rl⟩:=r2.refT;obtain⟨as,q1,q2⟩:=ztt e1 rl;obtain⟨C',y1,y2,y3⟩:=h.ei c hz;rw[hC]at y1;cases y1;refine⟨a,C,b,_,rfl,hH,y2,.inr ⟨p,vs,as.map Value.ref,rfl,tt.sq,?_,?_,zub h hz hC q2 e2⟩,k _ H (Ext.refl _ _) hS rfl⟩
         · rw[q1];exact(zbd as).1
         · rw[q1];exact(zbd as).2
       · cases e1
     · cases e1
   · cases e
 · cases e
theorem zo5(h:UpOk X.K X.mg u)(hm:X.mg "isinstance"=none)(ha:FA X (e::es) g)(hg:Gl X "isinstance":=by rfl)(he:starEach (e::es) X.env=(false,eval e X.env)::starEach es X.env:=by exact qd rfl)(hpl:(backTo pos (starEach es X.env)).any (·.1)=false:=by exact qv rfl) :
   FE X (.Call (.Name "isinstance" p) (e::es) [] pos) (eA (zto u) g) :=
 zki zsg (zuy h) hm (by with_unfolding_all rfl) ha hg (by decide) (by decide) he hpl
end
def zxd:D->Option D
 | .int a=>if a.natAbs.log2<1920 then some (.str (toString a))else none
 | .str x=>if x.length<=sizeLine then some (.str x)else none
 |_=>none
def z13:List Str->Str->Str
 | [],out=>out
 |x::r,out=>z13 r (out++x)
def zwl:List Str->Str->Bool
 | [],out=>decide (out.length<=sizeLine)
 |x::r,out=>decide ((out++x).length<=sizeLine)&&zwl r (out++x)
def z12(g:As):E:=fun ev S=>(g ev S).bind fun q=>(zc4 q.1).bind fun ys=>if zwl ys Str.empty=true then some (.str (z13 ys Str.empty),q.2)else none
section
variable {X:Cx}{e:Expr}{es:List Expr}{f:E}{g:As}{pos:Pos}
theorem z0d(h:FE X e f):FE X (.FormattedValue e (-1) none pos) (e1 zxd f):=by
 intro pins s σ H Q I t;obtain⟨ρ,ev,S,d,S',hE,hS,hf,k⟩:=t;obtain⟨⟨x,S1⟩,q1,hf⟩:=zw hf;obtain⟨z,q2,hf⟩:=zas hf;cases hf;refine wpAny_FormattedValue_plain (thn (h pins s σ H (fun v H1=>∃ρ1,Ext ρ H ρ1 H1/\StOk X.K X.mg ρ1 H1 S1/\Rep X.K X.mg ρ1 H1 x v) I ⟨ρ,ev,S,x,S1,hE,hS,q1,fun v ρ1 H1 a b c=>⟨ρ1,a,b,c⟩⟩) fun u s1 ⟨v,H1,I1,r,ρ1,a,b,c⟩=>?_);cases x with
 | int i=>
   dsimp only[zxd]at q2;split at q2
   · rename_i hd;cases q2;obtain rfl:v=.int i:=c;obtain⟨t,rfl⟩:=(show ∃t,u=Value.int i t from r)
     exact wpAny_formatField_int hd ⟨.str _,H1,I1.tok _,⟨_,rfl⟩,k _ ρ1 H1 a b rfl⟩
   · cases q2
 | str y=>
   dsimp only[zxd]at q2;split at q2
   · rename_i hd;cases q2;obtain rfl:v=.str y:=c;obtain⟨t,rfl⟩:=(show ∃t,u=Value.str y t from r)
     exact wpAny_formatField_str ⟨.str _,H1,I1,⟨_,rfl⟩,k _ ρ1 H1 a b rfl⟩ ⟨.str _,H1,I1.tok _,⟨_,rfl⟩,k _ ρ1 H1 a b rfl⟩ hd
   · cases q2
 |_=>cases q2
inductive FL (X:Cx):List Expr->As->Prop where
 |nil:FL X [] aN
 |cons {e:Expr}{es:List Expr}{f:E}{g:As} (h:FE X e f) (t:FL X es g):FL X (e::es) (aC f g)
theorem zv6{es:List Expr}{g:As}(hl:FL X es g):∀{out:Str}{pins:zAO}{s:Shared}{σ:L2.St}{H:Hp}{Q:VK}{ρ:List Addr}{ev:Ev}{S S':Sto}{ds:List D}{ys:List Str},Inv X pins σ H s->EnvR X.K X.mg ρ H ev σ->StOk X.K X.mg ρ H S ->
   g ev S=some (ds,S')->zc4 ds=some ys->zwl ys out=true->(∀ρ' H',Ext ρ H ρ' H'->StOk X.K X.mg ρ' H' S'->Q (.str (z13 ys out)) H')->wpAny (model X.prog X.w) X.A (joinParts out (evalEach es X.env)) (EP X pins σ Q) X.xe s:=by
 induction hl with
 | nil=>
   intro out pins s σ H Q ρ ev S S' ds ys I hE hS hg hs hf k;cases hg;cases hs;exact joinParts_nil ⟨.str _,H,I.tok _,⟨_,rfl⟩,k ρ H (Ext.refl _ _) hS⟩ (z63 hf)
 | @cons e es f g h t ih=>
   intro out pins s σ H Q ρ ev S S' ds ys I hE hS hg hs hf k;obtain⟨⟨x,S1⟩,q1,hg⟩:=zw hg;obtain⟨⟨r,S2⟩,q2,hg⟩:=zw hg;cases hg;cases x with
   | str y=>
     obtain⟨ys',e1,e2⟩:∃ys',zc4 r=some ys'/\y::ys'=ys:=by unfold zc4 at hs;obtain⟨l,e1,e2⟩:=zas hs;exact⟨l,e1,e2⟩
     subst e2;unfold zwl at hf;rw[z6p]at hf;refine joinParts_cons (thn (h pins s σ H (fun v H1=>∃ρ1,Ext ρ H ρ1 H1/\StOk X.K X.mg ρ1 H1 S1/\Rep X.K X.mg ρ1 H1 (.str y) v) I ⟨ρ,ev,S,_,S1,hE,hS,q1,fun v ρ1 H1 a b c=>⟨ρ1,a,b,c⟩⟩) fun u s1 ⟨v,H1,I1,r1,ρ1,a,b,c⟩=>?_);obtain rfl:v=.str y:=c;obtain⟨tk,rfl⟩:=(show ∃tk,u=Value.str y tk from r1)
     exact⟨z63 hf.1,ih I1 (hE.mono a) b q2 e1 hf.2 fun ρ' H' x1 x2=>k ρ' H' (a.trans x1) x2⟩
   |_=>unfold zc4 at hs;cases hs
theorem zwn{e2:Expr}(hl:FL X (e::e2::es) g):FE X (.JoinedStr (e::e2::es) pos) (z12 g):=by
 intro pins s σ H Q I t;obtain⟨ρ,ev,S,d,S',hE,hS,hf,k⟩:=t;obtain⟨⟨ds,S1⟩,q1,hf⟩:=zw hf;obtain⟨ys,q2,hf⟩:=zw hf;dsimp only at hf;split at hf
 · rename_i hfit;cases hf;exact JoinedStr_many (zv6 hl I hE hS q1 q2 hfit fun ρ' H' x1 x2=>k _ ρ' H' x1 x2 rfl)
 · cases hf
end
section
variable {K:zFr}{mg:zMg}{h:Heap}
theorem zko{C:Addr}(h8:hasDictIn K C=true):(clsIn K C).isSome=true:=by obtain⟨cd,hc,_⟩:=any_some h8;rw[hc];rfl
theorem has_exc(KX:K.In h)(G:h.Ns mainGlobals mg){c:Str}{C:Addr}(a:nsIn K mainGlobals c=some (some (.ref C)))(q:excIn K C zsp "ValueError.__new__"=true):ExcCls K mg c:=z0k (mg_of KX G a) q
theorem has_ei(KX:K.In h)(G:h.Ns mainGlobals mg){c:Str}{C:Addr}(a:nsIn K mainGlobals c=some (some (.ref C)))(h1:findIn K (.ref C) "__getattribute__"=some (some (.builtin "BaseException.__getattribute__")))(h2:findIn K (.ref C) "__getattr__"=some none)
   (h3:findIn K (.ref C) "__class__"=some (some (.builtin "object.__class__"))) (h4:specialIn K (.builtin "object.__class__") "__get__"=some (some (.builtin "getset_descriptor.__get__"))) (h5:takesIn K (.builtin "object.__class__")=some true) (h6:mroIn K C (.type "object")=some true)
   (h7:mroIn K C (.type "BaseException")=some true) (h8:hasDictIn K C=true) (h9:kitOne K (.ref C) (.type "ValueError")=some true):ExcI K mg c:=⟨C,mg_of KX G a,⟨h1,h2,h3,h4,h5,h6,h7,zko h8⟩,h9⟩
theorem has_is(KX:K.In h)(G:h.Ns mainGlobals mg){c d:Str}{C D:Addr}{b:Bool}(a:nsIn K mainGlobals c=some (some (.ref C)))(a':nsIn K mainGlobals d=some (some (.ref D)))(q:kitOne K (.ref C) (.ref D)=some b):IsF K mg c d b:=⟨C,D,mg_of KX G a,mg_of KX G a',q⟩
theorem has_cat(KX:K.In h)(G:h.Ns mainGlobals mg){c d:Str}{C D:Addr}(a:nsIn K mainGlobals c=some (some (.ref C)))(a':nsIn K mainGlobals d=some (some (.ref D)))(h1:mroIn K C (.ref D)=some true)(h2:mroIn K D (.type "BaseException")=some true)
   (h3:typeIn K (.ref D)=some (.type "type")) (h4:hasDictIn K D=true):Cat K mg c d:=⟨C,D,mg_of KX G a,mg_of KX G a',h1,h2,h3,zko h4⟩
theorem has_val(KX:K.In h)(G:h.Ns mainGlobals mg){c:Str}{C:Addr}(a:nsIn K mainGlobals c=some (some (.ref C))):∃f,mg c=some (.ref f):=⟨C,mg_of KX G a⟩
theorem is_of{c d:Str}{b:Bool}(h:IsF K mg c d b)(e:b=decide (d=c\/d="ShelfError"):=by decide +kernel):IsF K mg c d (decide (d=c\/d="ShelfError")):=e▸h
theorem all_nil{P:Str->Prop}:∀x∈([]:List Str),P x:=fun _ h=>nomatch h
theorem all_cons{P:Str->Prop}{a:Str}{l:List Str}(h:P a)(t:∀x∈l,P x):∀x∈a::l,P x:=fun x hx=>by
 rcases z5y.mp hx with rfl | hx
 · exact h
 · exact t x hx
theorem UpOk.cat{u:Up}(h:UpOk K mg u):∀c,u.cat c=true->Cat K mg c "ShelfError":=fun c e=>h.ct c (z63 e)
theorem boot_ValueError:bootBuiltins "ValueError"=some (.type "ValueError"):=by with_unfolding_all rfl
end
section
variable {P:Program}{w:World}{K:zFr}{mg:zMg}{base:Heap}{x c m qual:Str}{st:Stmt}{N ps:List Str}{k:Nat}{r:R}
def z31(P:Program)(w:World)(K:zFr)(mg:zMg)(base:Heap)(N:List Str)(qual:Str)(st:Stmt)(k:Nat)(r:R):Prop :=
 ∀(f:Addr) (cdv:Value) (A:Around) (outer:List Env) (s:Shared) (H:Hp) (E:XK),Room k (A.deeper (envOfC qual (zh st) s.heap.objs.size f cdv))->RSs (zca (CX1 P w) P w K mg base N qual (zh st) f cdv A outer s H E) (j5 st) r
theorem HasDef.rcal(h:HasDef K mg x st 0)(S:FnScope N ps (zh st))(hb:zxa x x st ps)(hbody:z31 P w K mg base N x st k r):RCal P w K mg base (k+1) x (zcl N.length ps.length r):=by obtain⟨f,fd,dV,F,hm,rfl⟩:=h.ex;exact⟨f,fd,ps,[],[],[],_,F.rok S fun cdv A outer s H E hr=>hbody f cdv A outer s H E hr,hm,F.kp,F.binds0 hb,.nil,fun _ _=>RepL.nil,fun args S r e=>by rw[z6e];exact e⟩
end
def zxc:D->Option D
 | .int i=>some (.int (-i))
 |_=>none
theorem ztx{X:Cx}{e:Expr}{f:E}{pos:Pos}(h:FE X e f):FE X (.UnaryOp .USub e pos) (e1 zxc f):=qz (z2t zxp h) fun σ H Q t=>by
 obtain⟨ρ,ev,S,d,S',hE,hS,hf,k⟩:=t;obtain⟨⟨x,S1⟩,q1,hf⟩:=zw hf;obtain⟨z,q2,hf⟩:=zas hf;cases hf;cases x with
 | int i=>
   cases q2;exact⟨ρ,ev,S,_,S1,hE,hS,q1,fun v ρ1 H1 a b c=>⟨i,c,k _ ρ1 H1 a b rfl⟩⟩
 |_=>cases q2
theorem zsd{c:Addr}{q:Str}(h1 h2:Heap)(p:zau c q h1)(k:∀o,h1.get? c=some o->h2.get? c=some o):zau c q h2:=by obtain⟨c',o,vs,t,e,h,r⟩:=p;cases e;exact⟨_,o,vs,t,rfl,k _ h,r⟩
theorem zse{c:Addr}{q:Str}{h:Heap}(p:zau c q h):∃o,h.get? c=some o:=by obtain⟨c',o,vs,t,e,h,r⟩:=p;cases e;exact⟨_,h⟩
theorem zl5{p:Pos}{a b:Int}{cv x:Value}(l:List Value)(h:TriplesOk l):codeAmong p (l++[rawInt a,rawInt b,cv])=some x->codeAmong p l=some x\/x=cv:=by
 fun_induction TriplesOk l with
 | case1=>
   intro e;simp only[List.nil_append,rawInt,codeAmong]at e;split at e
   · exact .inr (z62 e).symm
   · cases e
 | case2 i t j u c rest ih=>
   intro e;simp only[List.cons_append,codeAmong]at e ⊢;split at e
   · rename_i z;rw[z55 z];exact .inl e
   · rename_i z;rw[z6c z];exact ih h e
 |case3=>exact h.elim
section
variable {X:Cx}{pins:zAO}{σ:L2.St}{H:Hp}{s:Shared}
theorem zv8{P c:Addr}{ps more:Array Value}{q:Str}{h':Heap}{tk:Nat}(I:Inv X pins σ H s)(hP:H P=some (.tbl ps))(hx:Heap.ExtBut P s.heap h')(ht:h'.get? P=some (tabObj (ps++more)))(hge:s.heap.objs.size<=c)(hc:zau c q h') :
   Inv X pins σ (upd (upd H P (.tbl (ps++more))) c (.ext (zau c q))) { s with heap:=h',toks:=tk }:=by
 have hn:H c=none:=I.hok.fresh hge;have hPc:P≠c:=z56 (z5q (I.hok.lt hP) hge);have neP:∀b,H b=none->b≠P:=fun b n z=>by rw[z,hP]at n;cases n
 have nec:∀b u,H b=some u->b≠c:=fun b u e z=>by rw[z,hn]at e;cases e
 have kp:∀b o,s.heap.get? b=some o->b≠P->h'.get? b=some o:=fun b o e n=>hx b o n e;have keepH:∀b u,H b=some u->(∀ps,u≠.tbl ps)->upd (upd H P (.tbl (ps++more))) c (.ext (zau c q)) b=some u:=fun b u e n=>by rw[z0 (nec b u e),z0 (fun z=>by rw[z,hP]at e;cases e;exact n ps rfl)];exact e
 refine I.un ⟨fun b o e n _ _=>kp b o e (neP b n),fun b o e n _ _=>⟨o.slots,kp b o e (neP b n)⟩,fun b o e n _=>?_,fun b o e _=>?_,fun b xs e=>keepH b _ e (fun _ z=>by cases z),fun b o u e=>keepH b _ e (fun _ z=>by cases z),fun b qs e=>?_⟩ fun b u e=>?_
 · have hb:b<s.heap.objs.size:=z58 e;rw[z0 (z56 (z5q hb hge)),z0 (neP b n)];exact n
 · by_cases z:b=P
   · exact⟨_,z▸ht⟩
   · exact⟨o,kp b o e z⟩
 · by_cases z:b=P
   · subst z;rw[hP]at e;cases e;exact⟨more,by rw[z0 hPc,qg]⟩
   · exact⟨#[],by rw[z0 (nec b _ e),z0 z,e];simp⟩
 · by_cases zc:b=c
   · subst zc;rw[qg]at e;cases e;exact⟨hc,zse hc,fun h1 h2 p k=>zsd h1 h2 p k⟩
   · rw[z0 zc]at e;by_cases z:b=P
     · subst z;rw[qg]at e;cases e;exact ht
     · rw[z0 z]at e;refine(I.hok b u e).stay (fun d o hd w=>?_) (fun d w=>keepH d _ w fun _ y=>by cases y) fun d xs w=>keepH d _ w fun _ y=>by cases y
       refine kp d o w fun y=>?_;rcases hd with rfl | hd
       · exact z y
       · rw[y,hP]at hd;cases hd
end
def zky(K:Frag)(mg:zMg)(x:Str)(cdv:Value):Prop:=∃(f:Addr) (o:Obj) (fd:FuncData),mg x=some (.ref f)/\K.lookup f=some o/\o.data=.func fd/\fd.code=cdv
def zqc(base:Heap)(mg:zMg):Prop:=∃(bm:Addr) (o:Obj),mg "__builtins__"=some (.ref bm)/\bm≠builtinsNs/\bm≠mainGlobals/\base.get? bm=some o/\o.cls=.type "module"/\o.dict=some builtinsNs/\o.data=.plain
section
variable {X:Cx}{x:Str}{params:Arguments}{body:Expr}{scope:Scope}{pos:Pos}
theorem zqn{K mg ρ H}{S:Sto}(hS:StOk K mg ρ H S){j:Nat}{P c:Addr}{x q:Str}{ps:Array Value}{a b:Int}(hj:S[j]? = some (.tab x q))(hP:ρ[j]? = some P)(hps:H P=some (.tbl ps))(hn:H c=none) :
   Ext ρ H ρ (upd (upd H P (.tbl (ps++#[rawInt a,rawInt b,.ref c]))) c (.ext (zau c q)))/\StOk K mg ρ (upd (upd H P (.tbl (ps++#[rawInt a,rawInt b,.ref c]))) c (.ext (zau c q))) S:=by
 have cf:c∉ρ:=hS.fresh hn;have hPc:P≠c:=fun z=>cf (z▸z6j hP);have e0:Ext ρ H ρ (upd (upd H P (.tbl (ps++#[rawInt a,rawInt b,.ref c]))) c (.ext (zau c q))) :=
   ⟨fun _ _ e=>e,fun d u e n=>by
     rw[z0 (a:=c) (fun(z:d=c)=>by rw[z,hn]at e;cases e),z0 (a:=P) (fun(z:d=P)=>n (by rw[z];exact z6j hP))];exact e,fun _ z n=>absurd z n⟩
 refine⟨e0,hS.len,hS.nd,fun i m d e1 e2=>?_⟩;by_cases hi:i=j
 · subst hi;rw[hj]at e1;cases e1;rw[hP]at e2;cases e2;obtain⟨T,ps',h1,h2,h3⟩:=hS.ob i _ P hj hP;rw[hps]at h1;cases h1;refine⟨T,_,by rw[z0 hPc,qg],by rw[z6t];exact TriplesOk_snoc a b _ _ h2,fun pos cv z=>?_⟩;rw[z6t]at z;rcases zl5 _ h2 z with y | y
   · obtain⟨c',z1,z2,z3⟩:=h3 pos cv y;exact⟨c',z1,z2,e0.keep _ _ z3 z2⟩
   · exact⟨c,y,cf,qg⟩
 · have q:=hS.ob i m d e1 e2;obtain⟨u,z⟩:=q.some;exact q.mono e0 (by rw[z0 (a:=c) (fun(y:d=c)=>by rw[y,hn]at z;cases z),z0 (a:=P) (fun(y:d=P)=>hi (zjy hS.nd (by rw[e2,y]) hP))])
end
def zp4(N n:Nat)(f:E):G:=fun ds S=>if ds.length=n then f (ds.map some++List.replicate (N-ds.length) none) S else none
def z4l(t:LT)(a c:Addr)(pm ct:Value)(H:Hp):Prop:=H a=some (.ext (z1s t a c pm ct))/\H c=some (.ext (zau c t.qual))
section
variable {P:Program}{w:World}{K:Frag}{mg:zMg}{base:Heap}{k:Nat}{t:LT}{N ps:List Str}{f:E}
structure LCal (P:Program) (w:World) (K:Frag) (mg:zMg) (base:Heap) (k:Nat) (t:LT) (g:G):Prop where
 ex:∃ps:List Str,(∀(a c:Addr) (pm ct:Value),FnOk P w K mg base CX0 k a (kla_fn "<lambda>" t.qual t.params t.body t.scope [] pm (.ref c) ct) ps (fun vs H Q E=>z4l t a c pm ct H/\spG K mg g vs H Q E)) /\
   ∀(c:Addr) (pm ct:Value),Binds K (kla_fn "<lambda>" t.qual t.params t.body t.scope [] pm (.ref c) ct) ps []
theorem LCal.mono{j:Nat}{g:G}(c:LCal P w K mg base j t g)(h:j<=k):LCal P w K mg base k t g :=
 let⟨ps,F,b⟩:=c.ex;⟨ps,fun a c pm ct=>(F a c pm ct).mono h,b⟩
end
def yw(ft:Str->Option G)(lt:LT->Option G)(f:E)(a:As):E:=fun ev S=>(f ev S).bind fun p=>match p.1 with
 | .fn x=>(ft x).bind fun g=>(a ev p.2).bind fun q=>g q.1 q.2
 | .lam t=>(lt t).bind fun g=>(a ev p.2).bind fun q=>g q.1 q.2
 |_=>none
section
variable {X:Cx}{k:Nat}{f:E}{a:As}{e:Expr}{es:List Expr}{pos:Pos}
theorem zaq{fe:Expr}{ft:Str->Option G}{lt:LT->Option G}(hT:∀x g,ft x=some g->Cal X.prog X.w X.K X.mg X.base k x g)(hL:∀t g,lt t=some g->LCal X.prog X.w X.K X.mg X.base k t g)(hr:Room k X.A)(hf:FE X fe f)(ha:FA X (e::es) a)
   (ht:eval (.Call fe (e::es) [] pos) X.env=(eval fe X.env >>= fun v=>callWith pos v [] (backTo pos (starEach (e::es) X.env)) (backToKw pos (keywordEach [] X.env))):=by rfl)
   (he:starEach (e::es) X.env=(false,eval e X.env)::starEach es X.env:=by exact qd rfl) (hpl:(backTo pos (starEach es X.env)).any (·.1)=false:=by exact qv rfl) :
   FE X (.Call fe (e::es) [] pos) (yw ft lt f a):=by
 intro pins s σ H Q I h;obtain⟨ρ,ev,S,d,S',hE,hS,hf',kk⟩:=h;obtain⟨⟨y,S1⟩,q1,hf'⟩:=zw hf';cases y with
 | fn x=>
   refine zr1 (ft:=ft) hT hr hf ha ht he hpl pins s σ H Q I ⟨ρ,ev,S,d,S',hE,hS,?_,kk⟩;unfold zt4;rw[q1];exact hf'
 | lam t=>
   rw[ht];dsimp only at hf';obtain⟨g,hx,hf'⟩:=zw hf';obtain⟨⟨ds,S2⟩,q2,hf'⟩:=zw hf';obtain⟨ps,F,hb⟩:=(hL t g hx).ex;refine z5o (thn (hf pins s σ H (fun v H1=>∃ρ1 a0,v=.ref a0/\Ext ρ H ρ1 H1/\StOk X.K X.mg ρ1 H1 S1/\LamAt ρ1 H1 t a0) I ⟨ρ,ev,S,_,S1,hE,hS,q1,fun v ρ1 H1 E1 hS1 r1=>?_⟩) fun u s1 ⟨v,H1,I1,rv,ρ1,a0,ev1,E1,hS1,L1⟩=>?_)
   · unfold Rep at r1;obtain⟨b,rfl,L⟩:=r1;exact⟨ρ1,b,rfl,E1,hS1,L⟩
   · subst ev1;obtain rfl:u=Value.ref a0:=rv;obtain⟨n0,c,pm,ct,nc,hA,hC⟩:=L1;have at_:∀{H':Hp}{s':Shared},Inv X pins σ H' s'->H' a0=some (.ext (z1s t a0 c pm ct))->FnAt a0 s'.heap:=fun J e=>⟨_,_,_,_,(J.hok a0 _ e).1⟩
     refine callWith_F (at_ I1 hA) (thn (ha pos pins s1 σ H1 (fun vs H2=>(H2 a0=some (.ext (z1s t a0 c pm ct)))/\(z4l t a0 c pm ct H2/\spG X.K X.mg g vs H2 Q E0)) I1 ⟨ρ1,ev,S1,ds,S2,hE.mono E1,hS1,q2,fun vs ρ2 H2 E2 hS2 r2=>?_⟩) fun us s2 ⟨vs,H2,I2,r,hA2,q2⟩=>⟨at_ I2 hA2,?_⟩) he hpl
     · have h1:=E2.keep _ _ hA n0;have h2:=E2.keep _ _ hC nc;exact⟨h1,⟨h1,h2⟩,ρ2,ds,S2,d,S',r2,hS2,hf',fun v ρ' H' E' hS' r'=>kk v ρ' H' ((E1.trans E2).trans E') hS' r'⟩
     · exact zgk (ds:=[]) (dvs:=[]) (F a0 c pm ct) hr (hb c pm ct) .nil zlf I2 r (by rw[z6e];exact q2)
 |_=>cases hf'
end
end F
namespace F
open PySem L2 PySem.Spec PyProof.Rows PySem.W
def zuf(tabs:List (Str×Str))(g:G):Prop:=∀ns:List Int,ns.length<=63->∃S,g [.lst (ns.map D.int)] (tabs.map fun p=>MO.tab p.1 p.2)=some (.bl true,S)
def H0(ts:List Addr)(so:Option (Addr×HO)):Hp:=fun b=>if b∈ts then some (.tbl #[])else match so with
 |some (a,o)=>if b=a then some o else none
 |none=>none
theorem zgw{as:List Addr}:∀{K:Frag}{P:Addr},as=K.map (·.1)->P∉as->K.lookup P=none
 | [],_,_,_=>rfl
 | (b,o)::K,P,e,h=>by
   subst e;rw[z5x,z5y,not_or]at h;have hb:(P==b)=false:=by simpa using h.1
   simp only[List.lookup,hb];exact zgw rfl h.2
section
variable {P:Program}{w:World}{K:Frag}{mg mb:zMg}{k:Nat}{fa a:Addr}{fd:FuncData}{x:Str}{sp:Sp}{s₁:Shared}{vs:List Value}{ns:List Int}{ts:List Addr}
theorem zof(KX:K.In s₁.heap)(hns:s₁.heap.Ns mainGlobals mg)(hb:s₁.heap.Ns builtinsNs mb)(hbb:∀x:Str,x≠"__name__"->mb x=bootBuiltins x)(hlim:s₁.heap.NoLimit)(hg:s₁.gens=#[])
   (ha:s₁.heap.get? a=some { cls:=.type "list",data:=.seq vs.toArray }) (hi:IntsAre vs ns) (hl:ns.length<=sizeLine) (hr:Room k callerA)
   (hts:∀Q∈ts,s₁.heap.get? Q=some (tabObj #[])/\K.lookup Q=none/\isCodeTable s₁.heap Q)
   (hbm:zqc s₁.heap mg) (F:∀base:Heap,K.In base->base.Ns mainGlobals mg->zqc base mg->FnOk P w K mg base CX0 k fa fd [x] sp) (hbind:∀(s:Shared) (u:Value),BindsTo s fd ⟨[u],[]⟩ [(x,u)])
   (hsp:∀so:Option (Addr×HO),a∉ts->SqL K (H0 ts so) a (ns.map V.int)->sp [.ref a] (H0 ts so) (fun v _=>v=.bl true) fun _ _ _=>False) :
   codeAny (model P w) callerA (.call (.ref fa) ⟨[.ref a],[]⟩) (fun r s'=>r=.ok (.ret (.bool true))/\OldK s₁.heap s'.heap/\s'.os=s₁.os/\AllBare s'.gens) s₁:=by
 have rv:=zgf hi;have lenV:=hi.length;have nat:a∉ts:=fun z=>by have e:=(hts a z).1;rw[ha]at e;cases e
 have core:∀so:Option (Addr×HO),(∀b o,so=some (b,o)->b=a/\K.lookup a=none/\o=.frz { cls:=.type "list",data:=.seq vs.toArray } (.lst (ns.map V.int)))->SqL K (H0 ts so) a (ns.map V.int) ->
     codeAny (model P w) callerA (.call (.ref fa) ⟨[.ref a],[]⟩) (fun r s'=>r=.ok (.ret (.bool true))/\OldK s₁.heap s'.heap/\s'.os=s₁.os/\AllBare s'.gens) s₁:=by
   intro so hso hS;have cases3:∀b,H0 ts so b=none\/(b∈ts/\H0 ts so b=some (.tbl #[]))\/(b=a/\K.lookup a=none/\H0 ts so b=some (.frz { cls:=.type "list",data:=.seq vs.toArray } (.lst (ns.map V.int)))):=fun b=>by
     by_cases z:b∈ts
     · exact .inr (.inl ⟨z,z55 z⟩)
     · cases so with
       |none=>exact .inl (z6c z)
       | some p=>
         obtain⟨c,o⟩:=p;obtain⟨h1,h2,h3⟩:=hso c o rfl;by_cases y:b=c
         · refine .inr (.inr ⟨y.trans h1,h2,?_⟩);unfold H0;rw[z6c z];show(if b=c then some o else none)=_;rw[z55 y,h3]
         · refine .inl ?_;unfold H0;rw[z6c z];exact z6c y
   have hok:HOk P w (H0 ts so) s₁.heap:=fun b u e=>by
     rcases cases3 b with q | ⟨q1,q2⟩ | ⟨rfl,_,q2⟩
     · rw[q]at e;cases e
     · rw[q2]at e;cases e;exact(hts b q1).1
     · rw[q2]at e;cases e;exact⟨ha,by rw[z6s];exact hl,vs,_,rv,ha⟩
   have free:∀{b:Addr}{o:Obj}{es:Array DictEntry}{ep:Nat},s₁.heap.get? b=some o->o.data=.dict es ep->H0 ts so b=none:=fun {b o es ep} e d=>by
     rcases cases3 b with q | ⟨q1,_⟩ | ⟨rfl,_,_⟩
     · exact q
     · rw[(hts b q1).1]at e;cases e;cases d
     · rw[ha]at e;cases e;cases d
   have nsK:∀{b:Addr}{m:zMg},s₁.heap.Ns b m->(zrs s₁.heap (H0 ts so)).Ns b m:=fun⟨o,es,ep,e,d,r⟩=>⟨o,es,ep,zfo e (free e d),d,r⟩
   have hKb:K.In (zrs s₁.heap (H0 ts so)):=fun b o e=>zfo (KX b o e) (by
     rcases cases3 b with q | ⟨q1,_⟩ | ⟨rfl,q1,_⟩
     · exact q
     · rw[(hts b q1).2.1]at e;cases e
     · rw[q1]at e;cases e)
   have hM:Mod K mg (zrs s₁.heap (H0 ts so)):=⟨hKb,nsK hns,⟨mb,nsK hb,hbb⟩,let⟨mc,h1,h2⟩:=hlim;⟨mc,nsK h1,h2⟩⟩
   have e0:Env0 P w K mg (zrs s₁.heap (H0 ts so)) callerA [] s₁ (H0 ts so):=⟨rfl,hM,fun b o e=>zvw e,Nat.le_of_eq (zor _ _),trivial,fun b hb=>absurd (show b∈([]:List Addr)from hb) (by simp),hok,.of_eq hg⟩
   have hB:zqc (zrs s₁.heap (H0 ts so)) mg:=by
     obtain⟨bm,ob,b1,b2,b3,b4,b5,b6,b7⟩:=hbm;refine⟨bm,ob,b1,b2,b3,zfo b4 ?_,b5,b6,b7⟩;rcases cases3 bm with q | ⟨q1,_⟩ | ⟨rfl,_,_⟩
     · exact q
     · rw[(hts bm q1).1]at b4;cases b4;cases b7
     · rw[ha]at b4;cases b4;cases b7
   refine z95 ((F _ hKb (nsK hns) hB).run callerA [] s₁ (H0 ts so) ⟨[.ref a],[]⟩ [.ref a] [.ref a] _ _ hr e0 (hbind s₁ (.ref a)) (.cons rfl .nil) (hsp so nat hS)) fun r s' h=>?_;cases r with
   |error e=>exact False.elim h
   | ok fl=>
     cases fl with
     |next=>exact False.elim h
     |brk=>exact False.elim h
     |cont=>exact False.elim h
     | ret u=>
       obtain⟨v,H',os,bare,un,hok',r',q⟩:=h;obtain rfl:v=.bl true:=q;obtain rfl:u=Value.bool true:=r';refine⟨rfl,⟨fun b o e=>?_,fun b o e=>un.there b o e (by simp)⟩,os,bare⟩;rcases cases3 b with q | ⟨q1,q2⟩ | ⟨_,_,q2⟩
       · exact .inl (un.keep b o e q (fun z=>absurd (show b∈([]:List Addr)from z) (by simp)) (by simp))
       · obtain⟨more,z⟩:=un.tbls b _ q2;have e1:=(hts b q1).1;rw[e]at e1;cases e1;exact .inr (.inl ⟨(hts b q1).2.2,rfl,#[],more,rfl,hok' b _ z⟩)
       · have z:=un.frzs b _ _ q2;obtain⟨e1,_⟩:=hok b _ q2;obtain⟨e2,_⟩:=hok' b _ z;rw[e]at e1;cases e1;exact .inl e2
 cases hk:K.lookup a with
 | some o=>
   have e:=KX a o hk;rw[ha]at e;cases e;exact core none (fun b o z=>by cases z) (.inr ⟨_,vs.toArray,_,hk,rfl,rfl,rfl,by rw[z6d,lenV];exact hl,by simpa using rv⟩)
 | none=>
   refine core (some (a,.frz { cls:=.type "list",data:=.seq vs.toArray } (.lst (ns.map V.int)))) (fun b o z=>by cases z;exact⟨rfl,hk,rfl⟩) (.inl (.inr ⟨{ cls:=.type "list",data:=.seq vs.toArray },?_⟩));unfold H0;rw[z6c nat];exact z55 rfl
end
theorem zlv{K:Frag}{h:Heap}{c Q:Addr}(X:K.In h)(e:codeHdIn K c Q=true):isCodeTable h Q:=by obtain⟨o,vs,_,_,_,_,_,_,_,h1,h2,h3,h4,_⟩:=codeHd_of_K X e;exact⟨c,o,vs,h1,h2,h3,h4⟩
theorem law_walkT{l:OpenLaw}{q:Program}{loose:List Str}{XP:(zMg)->Heap->Prop}{d:DefRec}{K:Params->Frag}{as:List Addr}{e:∀P,as=(K P).map (·.1)}{ts:List Addr}{k:Nat}{g:G}{x:Str}(tabs:List (Str×Str))
   (hn:l.most=some 63) (hdf:d.params.defaults=[]) (hr:Room k callerA) (hts:ts.Nodup) (has:∀Q∈ts,Q∉as) (hlen:ts.length=tabs.length) (hg:zuf tabs g)
   (F:∀(w:World) (mg:zMg) (fa:Addr) (h:Heap),(K w.params).In h->h.Ns mainGlobals mg->mg d.name=some (.ref fa) ->
     (∀(i:Nat) (p:Str×Str) (Q:Addr),tabs[i]? = some p->ts[i]? = some Q->zw8 (K w.params) mg p.1 Q) /\
     ∃fd:FuncData,(∀(s:Shared) (u:Value),BindsTo s fd ⟨[u],[]⟩ [(x,u)])/\∀base:Heap,(K w.params).In base->base.Ns mainGlobals mg->zqc base mg->FnOk l.prog w (K w.params) mg base CX0 k fa fd [x] (spG (K w.params) mg g)) :
   WalkO q loose XP (kmHook K as e ts).says l.row.toRowW d [] (fun f vs=>PySem.call f vs):=by
 refine Att.attach_call hn hdf fun w s₀ s₁ mg mb fa o pm cd doc a vs ns G Y ho hd hcd hmg hobj hints hlen' hg'=>?_;have KX:=km_in_of Y;have TX:=km_tabs_of Y;obtain⟨T,fd,hb,hF⟩:=F w mg fa _ KX G.T.g hmg;have hbm:zqc s₁.heap mg:=by obtain⟨bm,ob,b1,b2,b3,b4,b5,b6⟩:=G.T.bmain;refine⟨bm,ob,b1,b2,fun q=>?_,b3,b4,b5,b6⟩;obtain⟨o,es,ep,e,hd,_⟩:=G.T.g;rw[q,e]at b3;cases b3;rw[hd]at b6;cases b6
 refine zof (k:=k) (fd:=fd) (x:=x) (ts:=ts) (sp:=spG (K w.params) mg g) KX G.T.g G.T.b G.T.builtins G.T.nolimit hg' hobj hints (z6h hlen' (by decide)) hr (fun Q hQ=>⟨TX Q hQ,zgw (e w.params) (has Q hQ),?_⟩) hbm hF hb fun so nat hS=>?_
 · obtain⟨i,hi,ei⟩:=z6g hQ;obtain⟨f,o,fd,c,_,_,_,_,z⟩:=T i (tabs[i]'(by omega)) Q (z5v (by omega)) (by rw[z5v hi,ei]);exact zlv KX z
 · obtain⟨S,hS'⟩:=hg ns hlen';have tb:∀Q∈ts,H0 ts so Q=some (.tbl #[]):=fun Q hQ=>z55 hQ;refine⟨ts,[.lst (ns.map D.int)],tabs.map fun p=>MO.tab p.1 p.2,.bl true,S,?_,⟨by rw[z6s];exact hlen,hts,fun i m b e1 e2=>?_⟩,hS',fun v ρ' H' _ _ r=>by rw[show v=.bl true from r]⟩
   · refine RepL.cons ?_ RepL.nil;unfold Rep;refine⟨a,ns.map V.int,rfl,?_,zjp ns⟩;rcases hS with hS | hS
     · exact .inl ⟨nat,hS⟩
     · exact .inr hS
   · rw[z6u]at e1;cases hp:tabs[i]? with
     |none=>rw[hp]at e1;cases e1
     | some p=>
       rw[hp]at e1;cases e1;exact⟨T i p b hp e2,#[],tb b (z6j e2),trivial,fun pos cv z=>by cases z⟩
section
variable {P:Program}{w:World}{K:Frag}{mg:zMg}{base:Heap}{x qual:Str}{st:Stmt}{N ps:List Str}{k:Nat}{b:C}{dV:Value}{f:Addr}{fd:FuncData}
theorem FunD.code(F:FunD K x qual st f fd dV){y:Str}(hm:mg y=some (.ref f)):zky K mg y fd.code:=by obtain⟨oc,od,kV,doc,pm,an,cdv,ct,osl,rfl,lk,hcd⟩:=F.ex;exact⟨f,_,_,hm,lk,rfl,rfl⟩
end
section
variable {K:Frag}{h:Heap}{mg:zMg} (X:K.In h) (G:h.Ns mainGlobals mg)
include X G
theorem has_tab{x:Str}{st:Stmt}{f c Q:Addr}{oc:Value}{od an:Option Addr}{osl:Array (Option Value)}{dV kV doc pm ct:Value}(a:nsIn K mainGlobals x=some (some (.ref f)))
   (l:K.lookup f=some ⟨oc,od,.func (fnOf x x (za9 st) (j5 st) (zh st) dV kV doc pm an (.ref c) ct),osl⟩) (z:codeHdIn K c Q=true):zw8 K mg x Q :=
 ⟨f,_,_,c,mg_of X G a,l,rfl,rfl,z⟩
end
end F
namespace F
open PySem L2 PySem.Spec PySem.Calls PyProof.Rows PySem.W
def cxC(P:Program)(w:World)(K:Frag)(mg:zMg)(base:Heap)(N:List Str)(qual:Str)(scope:Scope)(f:Addr)(cd:Value)(cl:zLA)(A:Around)(outer:List Env)(s:Shared)(H H1:Hp)(E:XK):Cx where
 prog:=P
 w:=w
 K:=K
 mg:=mg
 base:=base
 A:=A.deeper (envX qual scope s.heap.objs.size f cd cl)
 N:=N
 s₀:=s
 H₀:=H1
 env:=envX qual scope s.heap.objs.size f cd cl
 outer:=outer
 stack:=envX qual scope s.heap.objs.size f cd cl::outer
 ex:=[]
 calm:=true
 fn:=fun _=>false
 pn:=[]
 xe:=fun e s'=>wpAny (model P w) (A.deeper (envX qual scope s.heap.objs.size f cd cl)) (leaving (envX qual scope s.heap.objs.size f cd cl) e) (fun _ s''=>CX0 outer H s E e s'') (fun e' s''=>CX0 outer H s E e' s'') s'
def zb9(H:Hp)(cl:zLA):Hp:=fun b=>if b∈cl.map (·.2)then none else H b
theorem zda{H:Hp}{cl:zLA}{b:Addr}(h:b∈cl.map (·.2)):zb9 H cl b=none:=z55 h
theorem xj{H:Hp}{cl:zLA}{b:Addr}(h:b∉cl.map (·.2)):zb9 H cl b=H b:=z6c h
theorem Cells.at{ρ:List Addr}{H:Hp}:∀{xs:List Str}{us:List V}{cl:zLA},Cells ρ H xs us cl->∀b∈cl.map (·.2),∃o w,H b=some (.frz o (.own 0))/\o.data=.cell (some w)
 | [],[],[],_,b,hb=>by cases hb
 | x::xs,u::us,p::cl,h,b,hb=>by
   rw[z5x]at hb;rcases z5y.mp hb with rfl | hb
   · obtain⟨_,_,⟨o,w,h3,h4,_⟩,_⟩:=h;exact⟨o,w,h3,h4⟩
   · exact Cells.at h.2.2.2 b hb
 | [],[],_::_,h,_,_=>h.elim
 | [],_::_,_,h,_,_=>h.elim
 |_::_,[],_,h,_,_=>h.elim
 |_::_,_::_,[],h,_,_=>h.elim
theorem zv9{P:Program}{w:World}{H:Hp}{h:Heap}{cl:zLA}(x:HOk P w H h)(hc:∀b∈cl.map (·.2),∃o,H b=some (.frz o (.own 0))):HOk P w (zb9 H cl) h:=fun b u e=>by
 by_cases z:b∈cl.map (·.2)
 · rw[zda z]at e;cases e
 · rw[xj z]at e;refine(x b u e).stay (fun _ _ _ q=>q) (fun d q=>?_) fun d xs q=>?_
   · rw[xj (fun y=>by obtain⟨o,y'⟩:=hc d y;rw[q]at y';cases y')];exact q
   · rw[xj (fun y=>by obtain⟨o,y'⟩:=hc d y;rw[q]at y';cases y')];exact q
theorem yc{H:Hp}{cl:zLA}{b:Addr}(h:H b=none):zb9 H cl b=none:=by
 unfold zb9;split
 · rfl
 · exact h
theorem Cells.names{ρ:List Addr}{H:Hp}:∀{xs:List Str}{us:List V}{cl:zLA},Cells ρ H xs us cl->cl.map (·.1)=xs/\us.length=xs.length
 | [],[],[],_=>⟨rfl,rfl⟩
 | x::xs,u::us,p::cl,h=>by obtain⟨h1,h2⟩:=Cells.names h.2.2.2;exact⟨by rw[z5x,h1,h.1],by rw[List.length_cons,List.length_cons,h2]⟩
 | [],[],_::_,h=>h.elim
 | [],_::_,_,h=>h.elim
 |_::_,[],_,h=>h.elim
 |_::_,_::_,[],h=>h.elim
theorem Cells.get{ρ:List Addr}{H:Hp}:∀{xs:List Str}{us:List V}{cl:zLA},Cells ρ H xs us cl->xs.Nodup->∀(i:Nat) (x:Str) (u:V),xs[i]? = some x->us[i]? = some u->∃b o w,cl.lookup x=some b/\H b=some (.frz o (.own 0))/\o.data=.cell (some w)/\RelV u w
 | x::xs,u::us,p::cl,h,nd,0,y,v,e1,e2=>by cases e1;cases e2;obtain⟨h1,_,⟨o,w,h3,h4,h5⟩,_⟩:=h;exact⟨p.2,o,w,by obtain⟨a,b⟩:=p;subst h1;simp[List.lookup],h3,h4,h5⟩
 | x::xs,u::us,p::cl,h,nd,i+1,y,v,e1,e2=>by
   obtain⟨b,o,w,z1,z2⟩:=Cells.get h.2.2.2 (z7v.mp nd).2 i y v e1 e2;have ne:(y==p.1)=false:=by rw[h.1];refine beq_false_of_ne fun z=>(z7v.mp nd).1 ?_;rw[<-z];exact z6j e1
   refine⟨b,o,w,?_,z2⟩;obtain⟨a,c⟩:=p;simp only[List.lookup,ne];exact z1
 | [],[],[],_,_,_,_,_,e1,_=>by cases e1
 | [],[],_::_,h,_,_,_,_,_,_=>h.elim
 | [],_::_,_,h,_,_,_,_,_,_=>h.elim
 |_::_,[],_,h,_,_,_,_,_,_=>h.elim
 |_::_,_::_,[],h,_,_,_,_,_,_=>h.elim
structure CloScope (ps caps:List Str) (sc:Scope):Prop where
 kind:sc.kind=.function
 co:sc.isCoroutine=false
 gen:sc.isGenerator=false
 nd:(ps++caps).Nodup
 par:∀x∈ps,sc.names.lookup x=some .local
 cap:∀x∈caps,sc.names.lookup x=some .free
 nocell:∀y∈sc.names,y.2≠.cell
 fre:∀y∈sc.names,y.2=.free->y.1∈caps
theorem zek:∀{ps:List Str}{us:List Value}{i:Nat}{x:Str}{u:Value},ps.Nodup->ps[i]? = some x->us[i]? = some u->(ps.zip us).reverse.lookup x=some u
 | [],_,_,_,_,_,e,_=>by cases e
 |p::ps,[],i,x,u,_,_,e=>by cases e
 | p::ps,w::us,i,x,u,nd,e1,e2=>by
   rw[List.zip_cons_cons,List.reverse_cons,List.lookup_append];cases i with
   | zero=>
     cases e1;cases e2;have:(ps.zip us).reverse.lookup p=none:=by rw[List.lookup_eq_none_iff];intro q hq;have:=(z7w (a:=q.1) (b:=q.2) (qaa.mp hq)).1;simpa using fun(z:p=q.1)=>(z7v.mp nd).1 (z▸this)
     rw[this];simp[List.lookup]
   | succ i=>
     rw[zek (z7v.mp nd).2 e1 e2];rfl
theorem zlm{P:Program}{w:World}{K:Frag}{mg:zMg}{base:Heap}{ps caps:List Str}{qual:Str}{scope:Scope}{f:Addr}{cd:Value}{cl:zLA}{A:Around}{outer:List Env}{s:Shared}{H:Hp}{E:XK}{us:List Value}{vs cs:List V}{ρ:List Addr}{h':Heap}{tk:Nat}
   (S:CloScope ps caps scope) (hd:A.handled=none) (e0:Env0 P w K mg base A outer s H) (hl:vs.length=ps.length) (r:Vals vs us) (hc:Cells ρ H caps cs cl) (hcn:(cl.map (·.2)).Nodup)
   (hns:h'.Ns s.heap.objs.size (fun x=>(ps.zip us).reverse.lookup x)) (hk:∀b o,s.heap.get? b=some o->h'.get? b=some o) :
   Inv (cxC P w K mg base (ps++caps) qual scope f cd cl A outer s H (zb9 H cl) E) [] ((vs++cs).map some) (zb9 H cl) { s with heap:=h',toks:=tk }:=by
 have noA:∀b:Addr,b∉(cxC P w K mg base (ps++caps) qual scope f cd cl A outer s H (zb9 H cl) E).ex:=fun b z=>absurd (show b∈([]:List Addr)from z) (by simp);have hnm:=hc.names;have mem:∀{x:Str}{c:Addr},cl.lookup x=some c->(x,c)∈cl:=fun h=>mem_of_lookup_some h;have hcf:∀b∈cl.map (·.2),∃o,H b=some (.frz o (.own 0)):=fun b hb=>let⟨o,_,h1,_⟩:=hc.at b hb;⟨o,h1⟩;refine⟨⟨e0.mod,S.kind,rfl,rfl,z5p _,fun y z c h1 h2=>?_,fun y hy=>?_,fun y c h _=>(by cases h),fun _=>hd,Around.frames_deeper e0.frames,.inr ⟨rfl,rfl⟩,fun b z=>absurd z (noA b),fun b o e=>⟨(e0.bs b o e).1,yc (e0.bs b o e).2⟩,e0.bsz,fun b _ _=>noA b,fun b z=>absurd z (noA b),e0.funs,fun b hb=>yc (e0.frf b hb)⟩,
   rfl,e0.bare,Un.kept hk,⟨_,hns,fun i y v h1 h2 h3=>?_⟩,fun y c h=>?_,yc (e0.hok.fresh (z5p _)),fun y c h=>zda (z8s (mem h)),fun p hp=>absurd (show p∈([]:zAO)from hp) (by simp),(zv9 e0.hok hcf).kept hk,?_⟩
 · have m1:=mem h1;have m2:=mem h2;obtain⟨i,hi,ei⟩:=z6g m1;obtain⟨j,hj,ej⟩:=z6g m2;have:i=j:=(qba (i:=i) (j:=j) (h₀:=by simpa using hi) (h₁:=by simpa using hj) hcn).mp (by simp[ei,ej]);subst this;rw[ei]at ej;exact z7k Prod.fst ej
 · have hy:scope.names.lookup y=some .cell\/scope.names.lookup y=some .free:=hy;rcases hy with hy | hy
   · exact absurd rfl (S.nocell _ (z7t hy))
   · have hm:y∈caps:=S.fre _ (z7t hy) rfl;obtain⟨i,hi,ei⟩:=z6g hm;obtain⟨b,o,w,z,_⟩:=hc.get ((z89.mp S.nd).2.1) i y (cs[i]'(by omega)) (by rw[z5v hi,ei]) (z5v _);exact⟨b,z⟩
 · rw[z6u]at h2;have h1:(ps++caps)[i]? = some y:=h1;by_cases hi:i<ps.length
   · rw[z6n hi]at h1;rw[z6n (by omega)]at h2;cases hv:vs[i]? with
     |none=>rw[hv]at h2;cases h2
     | some a=>
       rw[hv]at h2;cases h2;obtain⟨u,hu,ru⟩:=r.get hv;exact⟨u,ru,.inl ⟨S.par y (z6j h1),zek (z89.mp S.nd).1 h1 hu⟩⟩
   · rw[z51 (by omega)]at h1;rw[z51 (by omega),hl]at h2;cases hv:cs[i-ps.length]? with
     |none=>rw[hv]at h2;cases h2
     | some a=>
       rw[hv]at h2;cases h2;obtain⟨b,o,w,z1,z2,z3,z4⟩:=hc.get (z89.mp S.nd).2.1 _ y _ h1 hv;exact⟨w,z4,.inr ⟨.inr (S.cap y (z6j h1)),b,z1,o,hk _ _ (e0.hok b _ z2).1,z3⟩⟩
 · obtain⟨o,w,z2,z3⟩:=hc.at c (z8s (mem h));exact⟨some w,o,hk _ _ (e0.hok c _ z2).1,z3⟩
 · show((vs++cs).map some).length=(ps++caps).length;rw[z6s,z5n,z5n,hl,hnm.2]
def onC(H H0:Hp)(cl:zLA):Hp:=fun b=>if b∈cl.map (·.2)then H0 b else H b
theorem zgt{H H0:Hp}{cl:zLA}{b:Addr}(h:b∈cl.map (·.2)):onC H H0 cl b=H0 b:=z55 h
theorem j4{H H0:Hp}{cl:zLA}{b:Addr}(h:b∉cl.map (·.2)):onC H H0 cl b=H b:=z6c h
theorem z19{fs:List Addr}{H H':Hp}{h h':Heap}{cl:zLA}(u:Un fs [] (zb9 H cl) H' h h')(hc:∀b∈cl.map (·.2),∃o,H b=some (.frz o (.own 0))):Un fs [] H (onC H' H cl) h h':=by
 have out:∀b,H b=none->b∉cl.map (·.2):=fun b n z=>by obtain⟨o,y⟩:=hc b z;rw[n]at y;cases y
 refine⟨fun b o e n hb hx=>u.keep b o e (yc n) hb hx,fun b o e n hb hx=>u.slot b o e (yc n) hb hx,fun b o e n hx=>?_,u.there,fun b xs e=>?_,fun b o v e=>?_,fun b ps e=>?_⟩
 · rw[j4 (out b n)];exact u.free b o e (yc n) hx
 · have z:b∉cl.map (·.2):=fun z=>by obtain⟨o,y⟩:=hc b z;rw[e]at y;cases y
   rw[j4 z];exact u.tups b xs (by rw[xj z];exact e)
 · by_cases z:b∈cl.map (·.2)
   · rw[zgt z];exact e
   · rw[j4 z];exact u.frzs b o v (by rw[xj z];exact e)
 · have z:b∉cl.map (·.2):=fun z=>by obtain⟨o,y⟩:=hc b z;rw[e]at y;cases y
   obtain⟨more,q⟩:=u.tbls b ps (by rw[xj z];exact e);exact⟨more,by rw[j4 z];exact q⟩
theorem zzu{P:Program}{w:World}{fs:List Addr}{H H':Hp}{h h':Heap}{cl:zLA}(u:Un fs [] (zb9 H cl) H' h h')(x0:HOk P w H h)(x:HOk P w H' h')(hc:∀b∈cl.map (·.2),(∃o,H b=some (.frz o (.own 0)))/\b∉fs):HOk P w (onC H' H cl) h':=fun b v e=>by
 have nn:∀d∈cl.map (·.2),H' d=none:=fun d hd=>by obtain⟨⟨o,z⟩,_⟩:=hc d hd;exact u.free d o (x0 d _ z).1 (zda hd) (by simp)
 by_cases z:b∈cl.map (·.2)
 · rw[zgt z]at e;obtain⟨⟨o,y⟩,nf⟩:=hc b z;rw[y]at e;cases e;have:=u.keep b o (x0 b _ y).1 (zda z) nf (by simp);exact⟨this,⟨o,this⟩⟩
 · rw[j4 z]at e;refine(x b v e).stay (fun _ _ _ q=>q) (fun d q=>?_) fun d xs q=>?_
   · rw[j4 (fun y=>by rw[nn d y]at q;cases q)];exact q
   · rw[j4 (fun y=>by rw[nn d y]at q;cases q)];exact q
mutual
def noC:D->Bool
 | .tup ds=>noCL ds
 | .lst ds=>noCL ds
 | .clo _ _=>false
 |_=>true
def noCL:List D->Bool
 | []=>true
 |d::ds=>noC d&&noCL ds
end
def z1o:MO->Bool
 | .lst ds=>noCL ds
 | .ins _ fs=>noCL (fs.map (·.2))
 | .dct kvs=>noCL (kvs.map (·.2))
 | .exc _=>true
 | .tab _ _=>true
def zff(S:Sto):Bool:=S.all z1o
section
variable {K:zFr}{mg:zMg}{ρ ρ':List Addr}{H H':Hp}{S S1:Sto}{cl:zLA}
def CellsIn(H:Hp)(cl:zLA):Prop:=∀b∈cl.map (·.2),∃o,H b=some (.frz o (.own 0))
theorem CellsIn.out(hc:CellsIn H cl){b:Addr}{u:HO}(h:H b=some u)(n:∀o,u≠.frz o (.own 0)):zb9 H cl b=some u:=by rw[xj (fun z=>by obtain⟨o,y⟩:=hc b z;rw[h]at y;exact n o (z62 y))];exact h
theorem TupAt.off{p:Addr}{vs:List V}(hc:CellsIn H cl)(h:TupAt K ρ H p vs):TupAt K ρ (zb9 H cl) p vs:=by
 rcases h with⟨n,h | ⟨o,h⟩⟩ | h
 · exact .inl ⟨n,.inl (hc.out h fun _ z=>by cases z)⟩
 · exact .inl ⟨n,.inr ⟨o,hc.out h fun _ z=>by cases z⟩⟩
 · exact .inr h
theorem LstAt.off{p:Addr}{vs:List V}(hc:CellsIn H cl)(h:LstAt K ρ H p vs):LstAt K ρ (zb9 H cl) p vs:=by
 rcases h with⟨n,h | ⟨o,h⟩⟩ | h
 · exact .inl ⟨n,.inl (hc.out h fun _ z=>by cases z)⟩
 · exact .inl ⟨n,.inr ⟨o,hc.out h fun _ z=>by cases z⟩⟩
 · exact .inr h
mutual
theorem Rep.off(hc:CellsIn H cl):∀{d:D}{v:V},noC d=true->Rep K mg ρ H d v->Rep K mg ρ (zb9 H cl) d v
 | .non,_,_,h=>h
 | .bl _,_,_,h=>h
 | .int _,_,_,h=>h
 | .str _,_,_,h=>h
 | .fn _,_,_,h=>h
 | .ty _,_,_,h=>h
 | .tup ds,_,hb,h=>by unfold Rep at h ⊢;unfold noC at hb;obtain⟨p,vs,e1,t,r⟩:=h;exact⟨p,vs,e1,t.off hc,RepL.off hc hb r⟩
 | .lst ds,_,hb,h=>by unfold Rep at h ⊢;unfold noC at hb;obtain⟨p,vs,e1,t,r⟩:=h;exact⟨p,vs,e1,t.off hc,RepL.off hc hb r⟩
 | .obj i,_,hb,h=>by unfold Rep at h ⊢;exact h
 | .lam t,_,_,h=>by unfold Rep at h ⊢;obtain⟨a,e1,n1,c,pm,ct,n2,h1,h2⟩:=h;exact⟨a,e1,n1,c,pm,ct,n2,hc.out h1 (fun _ z=>by cases z),hc.out h2 (fun _ z=>by cases z)⟩
 | .clo t vs,_,hb,h=>by unfold noC at hb;cases hb
theorem RepL.off(hc:CellsIn H cl):∀{ds:List D}{vs:List V},noCL ds=true->RepL K mg ρ H ds vs->RepL K mg ρ (zb9 H cl) ds vs
 | [],_,_,h=>h
 | d::ds,_,hb,h=>by unfold RepL at h ⊢;unfold noCL at hb;obtain⟨v,r,e,h1,h2⟩:=h;obtain⟨b1,b2⟩:=Bool.and_eq_true_iff.mp hb;exact⟨v,r,e,Rep.off hc b1 h1,RepL.off hc b2 h2⟩
end
theorem MOk.off{a:Addr}{m:MO}(hc:CellsIn H cl)(hb:z1o m=true)(h:MOk K mg ρ H a m):MOk K mg ρ (zb9 H cl) a m:=by
 cases m with
 |lst ds=>obtain⟨vs,h1,h2⟩:=h;exact⟨vs,hc.out h1 (fun _ z=>by cases z),h2.off hc hb⟩
 |ins c fs=>obtain⟨C,dx,vs,h0,h1,h2,h3⟩:=h;exact⟨C,dx,vs,h0,hc.out h1 (fun _ z=>by cases z),h2,h3.off hc hb⟩
 |dct kvs=>obtain⟨vs,h1,h2,h3⟩:=h;exact⟨vs,hc.out h1 (fun _ z=>by cases z),h2,h3.off hc hb⟩
 |exc c=>obtain⟨C,h1,h2⟩:=h;exact⟨C,h1,hc.out h2 (fun _ z=>by cases z)⟩
 |tab x q=>obtain⟨h0,ps,h1,h2,h3⟩:=h;exact⟨h0,ps,hc.out h1 (fun _ z=>by cases z),h2,fun pos cv z=>let⟨c,z1,z2,z3⟩:=h3 pos cv z;⟨c,z1,z2,hc.out z3 (fun _ z=>by cases z)⟩⟩
theorem StOk.off(hS:StOk K mg ρ H S)(hc:CellsIn H cl)(hb:zff S=true):StOk K mg ρ (zb9 H cl) S :=
 ⟨hS.len,hS.nd,fun i m a e1 e2=>(hS.ob i m a e1 e2).off hc (z6y.mp hb m (z6j e1))⟩
theorem Ext.on(e:Ext ρ (zb9 H cl) ρ' H')(hS:StOk K mg ρ' H' S1)(nn:∀b∈cl.map (·.2),H' b=none)(no:∀b∈cl.map (·.2),b∉ρ):Ext ρ H ρ' (onC H' H cl):=by
 refine⟨e.pre,fun b o h n=>?_,fun b h n=>?_⟩
 · by_cases z:b∈cl.map (·.2)
   · rw[zgt z];exact h
   · rw[j4 z];exact e.keep b o (by rw[xj z];exact h) n
 · by_cases z:b∈cl.map (·.2)
   · obtain⟨o,y⟩:=hS.mem h;rw[nn b z]at y;cases y
   · rw[<-xj (H:=H) z];exact e.new b h n
theorem ztz(nn:∀b∈cl.map (·.2),H' b=none):Ext ρ' H' ρ' (onC H' H cl) :=
 ⟨fun _ _ e=>e,fun b o h n=>by
   rw[j4 (fun z=>by rw[nn b z]at h;cases h)];exact h,fun _ z n=>absurd z n⟩
theorem StOk.on(hS:StOk K mg ρ' H' S1)(nn:∀b∈cl.map (·.2),H' b=none):StOk K mg ρ' (onC H' H cl) S1 :=
 ⟨hS.len,hS.nd,fun i m a e1 e2=>by
   have q:=hS.ob i m a e1 e2;obtain⟨u,z⟩:=q.some;exact q.mono (ztz nn) (j4 (fun y=>by rw[nn a y]at z;cases z))⟩
theorem Cells.out:∀{xs:List Str}{us:List V}{cl:zLA},Cells ρ H xs us cl->∀b∈cl.map (·.2),b∉ρ
 | [],[],[],_,b,hb=>by cases hb
 | x::xs,u::us,p::cl,h,b,hb=>by
   rw[z5x]at hb;rcases z5y.mp hb with rfl | hb
   · exact h.2.1
   · exact Cells.out h.2.2.2 b hb
 | [],[],_::_,h,_,_=>h.elim
 | [],_::_,_,h,_,_=>h.elim
 |_::_,[],_,h,_,_=>h.elim
 |_::_,_::_,[],h,_,_=>h.elim
theorem Cells.cin{xs:List Str}{us:List V}(h:Cells ρ H xs us cl):CellsIn H cl:=fun b hb=>let⟨o,_,h1,_⟩:=h.at b hb;⟨o,h1⟩
end
def isI:D->Bool
 | .int _=>true
 |_=>false
def z3s:D->Bool
 | .clo _ vs=>vs.all isI
 |_=>false
def zg0(kv:List D):Bool:=noCL kv||kv.all z3s
section
variable {K:zFr}{mg:zMg}{ρ:List Addr}{H:Hp}{cl:zLA}
def z3z(H:Hp)(cl:zLA):Prop:=∀b∈cl.map (·.2),∃o a,H b=some (.frz o (.own 0))/\o.data=.cell (some (.ref a))
theorem Cells.refs:∀{xs:List Str}{us:List V}{cl:zLA}{kv:List D},Cells ρ H xs us cl->RepL K mg ρ H kv us->kv.all z3s=true->z3z H cl
 | [],[],[],_,_,_,_=>fun b hb=>by cases hb
 |x::xs,u::us,p::cl,[],_,r,_=>by unfold RepL at r;cases r
 | x::xs,u::us,p::cl,d::kv,h,r,q=>fun b hb=>by
   unfold RepL at r;obtain⟨v,r',e,r1,r2⟩:=r;cases e;rw[List.all_cons,z6p]at q;rw[z5x]at hb;obtain⟨_,_,⟨o,w,h3,h4,h5⟩,h6⟩:=h;rcases z5y.mp hb with rfl | hb
   · cases d with
     | clo t vs=>
       unfold Rep at r1;obtain⟨a,_,rfl,_⟩:=r1;obtain rfl:w=Value.ref a:=h5;exact⟨o,a,h3,h4⟩
     |_=>cases q.1
   · exact Cells.refs h6 r2 q.2 b hb
 | [],[],_::_,_,h,_,_=>h.elim
 | [],_::_,_,_,h,_,_=>h.elim
 |_::_,[],_,_,h,_,_=>h.elim
 |_::_,_::_,[],_,h,_,_=>h.elim
theorem Cells.off1(hr:z3z H cl):∀{xs:List Str}{us:List V}{c1:zLA}{vs:List D},Cells ρ H xs us c1->RepL K mg ρ H vs us->vs.all isI=true->Cells ρ (zb9 H cl) xs us c1
 | [],[],[],_,_,_,_=>trivial
 |x::xs,u::us,p::c1,[],_,r,_=>by unfold RepL at r;cases r
 | x::xs,u::us,p::c1,d::vs,h,r,q=>by
   unfold RepL at r;obtain⟨v,r',e,r1,r2⟩:=r;cases e;rw[List.all_cons,z6p]at q;obtain⟨h1,h2,⟨o,w,h3,h4,h5⟩,h6⟩:=h;refine⟨h1,h2,⟨o,w,?_,h4,h5⟩,Cells.off1 hr h6 r2 q.2⟩;rw[xj fun z=>?_]
   · exact h3
   · obtain⟨o',a,y1,y2⟩:=hr _ z;rw[h3]at y1;cases y1;rw[h4]at y2;cases y2;cases d with
     | int i=>
       unfold Rep at r1;subst r1;obtain⟨_,h5⟩:=h5;cases h5
     |_=>cases q.1
 | [],[],_::_,_,h,_,_=>h.elim
 | [],_::_,_,_,h,_,_=>h.elim
 |_::_,[],_,_,h,_,_=>h.elim
 |_::_,_::_,[],_,h,_,_=>h.elim
theorem zj0:∀{vs:List D},vs.all isI=true->noCL vs=true
 | [],_=>rfl
 | d::vs,h=>by
   rw[List.all_cons,z6p]at h;unfold noCL;rw[zj0 h.2,Bool.and_true];cases d with
   |int i=>rfl
   |_=>cases h.1
theorem RepL.off1(hc:CellsIn H cl)(hr:z3z H cl):∀{kv:List D}{us:List V},kv.all z3s=true->RepL K mg ρ H kv us->RepL K mg ρ (zb9 H cl) kv us
 | [],_,_,h=>h
 | d::kv,_,q,h=>by
   unfold RepL at h ⊢;rw[List.all_cons,z6p]at q;obtain⟨v,r,e,h1,h2⟩:=h;refine⟨v,r,e,?_,RepL.off1 hc hr q.2 h2⟩;cases d with
   | clo t vs=>
     unfold Rep at h1 ⊢;obtain⟨a,us,e1,⟨n,c,pm,ct,c1,nc,z1,z2,z3,z4⟩,rk⟩:=h1;exact⟨a,us,e1,⟨n,c,pm,ct,c1,nc,hc.out z1 (fun _ z=>by cases z),hc.out z2 (fun _ z=>by cases z),z3,z4.off1 hr rk q.1⟩,rk.off hc (zj0 q.1)⟩
   |_=>cases q.1
theorem zrn{xs:List Str}{us:List V}{kv:List D}(h:Cells ρ H xs us cl)(r:RepL K mg ρ H kv us)(q:zg0 kv=true):RepL K mg ρ (zb9 H cl) kv us:=by
 unfold zg0 at q;rcases Bool.or_eq_true_iff.mp q with q | q
 · exact r.off h.cin q
 · exact r.off1 h.cin (h.refs r q) q
end
def zqr(K:zFr)(mg:zMg)(t:LT)(a c:Addr)(pm ct:Value)(cl:zLA)(g:G):Sp:=fun vs H Q _=>∃ρ ds S d S' us kv,RepL K mg ρ H ds vs/\StOk K mg ρ H S/\H a=some (.ext (zsf t cl a c pm ct))/\H c=some (.ext (zau c t.qual))/\(cl.map (·.2)).Nodup/\Cells ρ H t.caps us cl/\RepL K mg ρ H kv us /\
 (noCL ds&&zg0 kv&&zff S)=true/\g (ds++kv) S=some (d,S')/\ds.length=t.params.args.length/\∀v ρ' H',Ext ρ H ρ' H'->StOk K mg ρ' H' S'->Rep K mg ρ' H' d v->Q v H'
section
variable {P:Program}{w:World}{K:Frag}{mg:zMg}{base:Heap}{k:Nat}{t:LT}{ps:List Str}{f:E}
theorem z05(S:CloScope ps t.caps t.scope)(hpl:ps.length=t.params.args.length)(a c:Addr)(pm ct:Value)(cl:zLA)
   (hbody:∀(A:Around) (outer:List Env) (s:Shared) (H H1:Hp) (E:XK),Room k (A.deeper (envX t.qual t.scope s.heap.objs.size a (.ref c) cl))->FE (cxC P w K mg base (ps++t.caps) t.qual t.scope a (.ref c) cl A outer s H H1 E).nox t.body f) :
   FnOk P w K mg base CX0 (k+1) a (kla_fn "<lambda>" t.qual t.params t.body t.scope cl pm (.ref c) ct) ps (zqr K mg t a c pm ct cl (zp4 (ps++t.caps).length (ps++t.caps).length f)):=by
 have len:∀vs H Q E,zqr K mg t a c pm ct cl (zp4 (ps++t.caps).length (ps++t.caps).length f) vs H Q E->vs.length=ps.length:=fun vs H Q E h=>by obtain⟨ρ,ds,S,d,S',us,kv,r,_,_,_,_,_,_,_,_,hl,_⟩:=h;rw[<-r.length,hl,hpl]
 refine⟨len,fun A outer s H args us vs Q E hr e0 hb r hsp=>?_⟩;have hl:=len _ _ _ _ hsp;obtain⟨ρ,ds,S0,d,S',cs,kv,rr,hS,hA,hC,hnd,hcs,rk,hno,hf,hdl,kk⟩:=hsp;have lim:s.heap.NoLimit:=e0.mod.nolimit.keeps fun b o e=>(e0.bs b o e).1;have ho:s.heap.get? a=some (kla_obj "<lambda>" t.qual t.params t.body t.scope cl pm c ct):=(e0.hok a _ hA).1;have hcd:s.heap.CodeRec (.ref c) t.qual:=(e0.hok c _ hC).1;have hloc:∀y∈ps.zip us,t.scope.names.lookup y.1=some .local:=fun⟨n,v⟩ hy=>S.par n (z7w hy).1;refine kla_callFunE hr.depth ho rfl S.co S.gen rfl hcd (hb _ _ _ _ ?_);refine wpAny_newFunctionEnv S.nocell hloc (fun h₁ hns hsb=>⟨lim.fresh _ hsb,?_⟩) S.kind;show codeAny _ _ (.expr t.body (envX t.qual t.scope s.heap.objs.size a (.ref c) cl)) _ _;have hk₁:∀b o,s.heap.get? b=some o->h₁.get? b=some o:=fun b o e=>hsb.extBut b o (z56 (z58 e)) (z5t _ e);refine kla_codeExpr ?_;have I:=zlm (qual:=t.qual) (f:=a) (cd:=.ref c) (E:=E) (tk:=s.toks+(ps.zip us).length) S hr.hd e0 hl r hcs hnd hns hk₁;have cin:=hcs.cin;rw[z6p,z6p]at hno;obtain⟨⟨n1,n2⟩,n3⟩:=hno;unfold zp4 at hf;split at hf
 · rename_i hlen;have hpe:=(hbody A outer s H (zb9 H cl) E (hr.deeper _)).nox;have rs:RepL K mg ρ (zb9 H cl) (ds++kv) (vs++cs):=(rr.off cin n1).append (zrn hcs rk n2);have ev:EnvR K mg ρ (zb9 H cl) ((ds++kv).map some) ((vs++cs).map some):=by
     refine⟨by rw[z6s,z6s,rs.length],fun i x q=>?_⟩;rw[z6u]at q ⊢;cases hx:(ds++kv)[i]? with
     |none=>rw[hx]at q;cases q
     | some y=>
       rw[hx]at q;cases q;obtain⟨v,e1,r1⟩:=rs.get hx;exact⟨v,by rw[e1];rfl,r1⟩
   rw[hlen,z9n,List.replicate_zero,z6e]at hf;have hb2:∀b∈cl.map (·.2),(∃o,H b=some (.frz o (.own 0)))/\b∉frs outer:=fun b hb=>⟨cin b hb,fun z=>by
     obtain⟨o,y⟩:=cin b hb;rw[e0.frf b z]at y;cases y⟩
   refine z73 (hpe [] _ ((vs++cs).map some) (zb9 H cl) (fun v H'=>(∀b∈cl.map (·.2),H' b=none)->Q v (onC H' H cl)) I ⟨ρ,_,S0,d,S',ev,hS.off cin n3,hf,fun v ρ' H' E' hS' r' nn=>?_⟩) (fun v s' hs=>?_) fun e s' hs=>hs
   · exact kk v ρ' _ (E'.on hS' nn hcs.out) (hS'.on nn) (r'.mono (ztz nn))
   · obtain⟨v',H',J,rv,q⟩:=hs;have un:Un (frs outer) [] (zb9 H cl) H' s.heap s'.heap:=J.base;have nn:∀b∈cl.map (·.2),H' b=none:=fun b hb=>by obtain⟨⟨o,z⟩,_⟩:=hb2 b hb;exact un.free b o (e0.hok b _ z).1 (zda hb) (by simp)
     exact⟨v',onC H' H cl,J.os,J.bare,z19 un cin,zzu un e0.hok J.hok hb2,rv,q nn⟩
 · cases hf
structure CCal (P:Program) (w:World) (K:Frag) (mg:zMg) (base:Heap) (k:Nat) (t:LT) (g:G):Prop where
 ex:∃ps:List Str,(∀(a c:Addr) (pm ct:Value) (cl:zLA),FnOk P w K mg base CX0 k a (kla_fn "<lambda>" t.qual t.params t.body t.scope cl pm (.ref c) ct) ps (zqr K mg t a c pm ct cl g)) /\
   ∀(c:Addr) (pm ct:Value) (cl:zLA),Binds K (kla_fn "<lambda>" t.qual t.params t.body t.scope cl pm (.ref c) ct) ps []
theorem CCal.mono{j:Nat}{g:G}(c:CCal P w K mg base j t g)(h:j<=k):CCal P w K mg base k t g :=
 let⟨ps,F,b⟩:=c.ex;⟨ps,fun a c pm ct cl=>(F a c pm ct cl).mono h,b⟩
theorem CCal.of(S:CloScope ps t.caps t.scope)(hpl:ps.length=t.params.args.length)(hb:∀(c:Addr) (pm ct:Value) (cl:zLA) (us:List Value),us.length=ps.length->bindArgs (kla_fn "<lambda>" t.qual t.params t.body t.scope cl pm (.ref c) ct) ⟨us,[]⟩=pure (ps.zip us))
   (hbody:∀(a c:Addr) (cl:zLA) (A:Around) (outer:List Env) (s:Shared) (H H1:Hp) (E:XK),Room k (A.deeper (envX t.qual t.scope s.heap.objs.size a (.ref c) cl))->FE (cxC P w K mg base (ps++t.caps) t.qual t.scope a (.ref c) cl A outer s H H1 E).nox t.body f) :
   CCal P w K mg base (k+1) t (zp4 (ps++t.caps).length (ps++t.caps).length f) :=
 ⟨ps,fun a c pm ct cl=>z05 S hpl a c pm ct cl (hbody a c cl),fun c pm ct cl=>.all (hb c pm ct cl)⟩
end
def xy(ft:Str->Option G)(lt ct:LT->Option G)(f:E)(a:As):E:=fun ev S=>(f ev S).bind fun p=>match p.1 with
 | .fn x=>(ft x).bind fun g=>(a ev p.2).bind fun q=>g q.1 q.2
 | .lam t=>(lt t).bind fun g=>(a ev p.2).bind fun q=>g q.1 q.2
 | .clo t vs=>(ct t).bind fun g=>(a ev p.2).bind fun q=>if(noCL q.1&&zg0 vs&&zff q.2)=true/\q.1.length=t.params.args.length then g (q.1++vs) q.2 else none
 |_=>none
section
variable {X:Cx}{k:Nat}{f:E}{a:As}{e:Expr}{es:List Expr}{pos:Pos}
theorem zbw{fe:Expr}{ft:Str->Option G}{lt ct:LT->Option G}(hT:∀x g,ft x=some g->Cal X.prog X.w X.K X.mg X.base k x g)(hL:∀t g,lt t=some g->LCal X.prog X.w X.K X.mg X.base k t g)(hC:∀t g,ct t=some g->CCal X.prog X.w X.K X.mg X.base k t g)(hr:Room k X.A)(hf:FE X fe f)(ha:FA X (e::es) a)
   (ht:eval (.Call fe (e::es) [] pos) X.env=(eval fe X.env >>= fun v=>callWith pos v [] (backTo pos (starEach (e::es) X.env)) (backToKw pos (keywordEach [] X.env))):=by rfl)
   (he:starEach (e::es) X.env=(false,eval e X.env)::starEach es X.env:=by exact qd rfl) (hpl:(backTo pos (starEach es X.env)).any (·.1)=false:=by exact qv rfl) :
   FE X (.Call fe (e::es) [] pos) (xy ft lt ct f a):=by
 intro pins s σ H Q I h;obtain⟨ρ,ev,S,d,S',hE,hS,hf',kk⟩:=h;obtain⟨⟨y,S1⟩,q1,hf'⟩:=zw hf';cases y with
 | fn x=>
   refine zaq (ft:=ft) (lt:=lt) hT hL hr hf ha ht he hpl pins s σ H Q I ⟨ρ,ev,S,d,S',hE,hS,?_,kk⟩;unfold yw;rw[q1];exact hf'
 | lam t=>
   refine zaq (ft:=ft) (lt:=lt) hT hL hr hf ha ht he hpl pins s σ H Q I ⟨ρ,ev,S,d,S',hE,hS,?_,kk⟩;unfold yw;rw[q1];exact hf'
 | clo t kv=>
   rw[ht];dsimp only at hf';obtain⟨g,hx,hf'⟩:=zw hf';obtain⟨⟨ds,S2⟩,q2,hf'⟩:=zw hf';dsimp only at hf';split at hf'
   · rename_i hno;obtain⟨hno,hlen⟩:=hno;obtain⟨ps,F,hb⟩:=(hC t g hx).ex;refine z5o (thn (hf pins s σ H (fun v H1=>∃ρ1 a0 us,v=.ref a0/\Ext ρ H ρ1 H1/\StOk X.K X.mg ρ1 H1 S1/\CloAt ρ1 H1 t us a0/\RepL X.K X.mg ρ1 H1 kv us) I ⟨ρ,ev,S,_,S1,hE,hS,q1,fun v ρ1 H1 E1 hS1 r1=>?_⟩) fun u s1 ⟨v,H1,I1,rv,ρ1,a0,us,ev1,E1,hS1,L1,rk⟩=>?_)
     · unfold Rep at r1;obtain⟨b,us,rfl,L,rk⟩:=r1;exact⟨ρ1,b,us,rfl,E1,hS1,L,rk⟩
     · subst ev1;obtain rfl:u=Value.ref a0:=rv;obtain⟨n0,c,pm,ctv,cl,nc,hA,hC,hnd,hcs⟩:=L1;have at_:∀{H':Hp}{s':Shared},Inv X pins σ H' s'->H' a0=some (.ext (zsf t cl a0 c pm ctv))->FnAt a0 s'.heap:=fun J e=>⟨_,_,_,_,(J.hok a0 _ e).1⟩
       refine callWith_F (at_ I1 hA) (thn (ha pos pins s1 σ H1 (fun vs H2=>(H2 a0=some (.ext (zsf t cl a0 c pm ctv)))/\zqr X.K X.mg t a0 c pm ctv cl g vs H2 Q E0) I1 ⟨ρ1,ev,S1,ds,S2,hE.mono E1,hS1,q2,fun vs ρ2 H2 E2 hS2 r2=>?_⟩) fun us s2 ⟨vs,H2,I2,r,hA2,q2⟩=>⟨at_ I2 hA2,?_⟩) he hpl
       · have h1:=E2.keep _ _ hA n0;have h2:=E2.keep _ _ hC nc;exact⟨h1,ρ2,ds,S2,d,S',us,kv,r2,hS2,h1,h2,hnd,hcs.mono E2,rk.mono E2,hno,hf',hlen,fun v ρ' H' E' hS' r'=>kk v ρ' H' ((E1.trans E2).trans E') hS' r'⟩
       · exact zgk (ds:=[]) (dvs:=[]) (F a0 c pm ctv cl) hr (hb c pm ctv cl) .nil zlf I2 r (by rw[z6e];exact q2)
   · cases hf'
 |_=>cases hf'
end
end F
namespace F
open PySem L2 PySem.Spec PySem.Calls PyProof.Rows PySem.W
def zpx(ev:Ev):List Nat->Option (List D)
 | []=>some []
 | i::is=>match ev[i]? with
   |some (some d)=>(zpx ev is).map (d::·)
   |_=>none
structure CapsOk (X:Cx) (t:LT) (cl:zLA) (is:List Nat):Prop where
 clo:closureFor t.scope X.env=pure cl
 names:cl.map (·.1)=t.caps
 look:∀p∈cl,X.env.cells.lookup p.1=some p.2
 nd:t.caps.Nodup
 at_:is.map (fun i=>X.N[i]?)=t.caps.map some
 kind:∀x∈t.caps,X.env.scope.names.lookup x=some .cell
 fn:∀x∈t.caps,X.fn x=true
def trk(H:Hp)(h:Heap)(cl:zLA):Hp:=onC H (fun b=>(h.get? b).map fun o=>.frz o (.own 0)) cl
section
variable {X:Cx}{pins:zAO}{σ:L2.St}{H H':Hp}{s:Shared}{t:LT}{cl:zLA}{is:List Nat}{ρ:List Addr}{ev:Ev}{S:Sto}
theorem CapsOk.hn(C:CapsOk X t cl is)(I:Inv X pins σ H s):∀b∈cl.map (·.2),H b=none:=fun b hb=>by obtain⟨p,hp,rfl⟩:=z7q.mp hb;exact I.freeC _ _ (C.look p hp)
theorem CapsOk.isc(C:CapsOk X t cl is)(I:Inv X pins σ H s):∀b∈cl.map (·.2),∃o v,s.heap.get? b=some o/\o.data=.cell v:=fun b hb=>by obtain⟨p,hp,rfl⟩:=z7q.mp hb;obtain⟨v,o,h1,h2⟩:=I.cell _ _ (C.look p hp);exact⟨o,v,h1,h2⟩
theorem CapsOk.nodup(C:CapsOk X t cl is)(I:Inv X pins σ H s):(cl.map (·.2)).Nodup:=by have nd:(cl.map (·.1)).Nodup:=C.names▸C.nd;unfold List.Nodup at nd ⊢;rw[z7u]at nd ⊢;refine nd.imp_of_mem fun {p q} hp hq ne e=>ne ?_;exact I.ok.inj _ _ p.2 (C.look p hp) (by rw[C.look q hq,e])
theorem CapsOk.ext(C:CapsOk X t cl is)(I:Inv X pins σ H s):Ext ρ H ρ (trk H s.heap cl) :=
 ⟨fun _ _ e=>e,fun b o h n=>by
   unfold trk;rw[j4 (fun z=>by rw[C.hn I b z]at h;cases h)];exact h,fun _ z n=>absurd z n⟩
theorem CapsOk.st(C:CapsOk X t cl is)(I:Inv X pins σ H s)(hS:StOk X.K X.mg ρ H S):StOk X.K X.mg ρ (trk H s.heap cl) S :=
 hS.on (C.hn I)
theorem CapsOk.hok(C:CapsOk X t cl is)(I:Inv X pins σ H s):HOk X.prog X.w (trk H s.heap cl) s.heap:=fun b u e=>by
 unfold trk at e;by_cases z:b∈cl.map (·.2)
 · obtain⟨o,v,h1,_⟩:=C.isc I b z;rw[zgt z,h1]at e;cases e;exact⟨h1,⟨o,h1⟩⟩
 · rw[j4 z]at e;refine(I.hok b u e).stay (fun _ _ _ q=>q) (fun d q=>?_) fun d xs q=>?_
   · unfold trk;rw[j4 (fun y=>by rw[C.hn I d y]at q;cases q)];exact q
   · unfold trk;rw[j4 (fun y=>by rw[C.hn I d y]at q;cases q)];exact q
theorem zhi(C:CapsOk X t cl is)(I:Inv X pins σ H s)(hE:EnvR X.K X.mg ρ H ev σ)(hS:StOk X.K X.mg ρ H S) :
   ∀(cl':zLA) (js:List Nat) (vs:List D),(∀p∈cl',p∈cl)->js.map (fun i=>X.N[i]?)=cl'.map (fun p=>some p.1)->zpx ev js=some vs->∃us,Cells ρ (trk H s.heap cl) (cl'.map (·.1)) us cl'/\RepL X.K X.mg ρ H vs us
 | [],[],vs,_,_,h=>by cases h;exact⟨[],trivial,RepL.nil⟩
 | [],_::_,_,_,e,_=>by cases e
 |_::_,[],_,_,e,_=>by cases e
 | p::cl',i::js,vs,hm,e,h=>by
   rw[z5x,z5x]at e;obtain⟨e1,e2⟩:=z9t e;unfold zpx at h;split at h
   · rename_i d hd;obtain⟨vs',hv,h⟩:=zas h;subst h;obtain⟨us,c1,r1⟩:=zhi C I hE hS cl' js vs' (fun q hq=>hm q (z5u _ hq)) e2 hv;obtain⟨v,hσ,rd⟩:=hE.at_ i d hd;obtain⟨m,hns,hl⟩:=I.loc;have hp:=hm p z5z;have hpm:p.1∈t.caps:=C.names▸z8s hp;have kd:=C.kind _ hpm;obtain⟨u,ru,lk⟩:=hl i p.1 v e1 hσ (.inr (.inl kd));have hb:p.2∈cl.map (·.2):=z8s hp;refine⟨v::us,⟨rfl,hS.fresh (C.hn I _ hb),?_,c1⟩,RepL.cons rd r1⟩;rcases lk with⟨k1,_⟩ | ⟨_,c,z1,o,z2,z3⟩
     · have:X.env.scope.names.lookup p.1=some .local:=k1;rw[kd]at this;cases this
     · rw[C.look p hp]at z1;cases z1;exact⟨o,u,by unfold trk;rw[zgt hb,z2];rfl,z3,ru⟩
   · cases h
theorem zon{c:Addr}{pm ct:Value}{h':Heap}{tk:Nat}(I:Inv X pins σ H s)(hk:∀b o,s.heap.get? b=some o->h'.get? b=some o)(hsz:s.heap.objs.size<=h'.objs.size) :
   Inv X pins σ (upd H h'.objs.size (.ext (zsf t cl h'.objs.size c pm ct))) { s with heap:=h'.push (kla_obj "<lambda>" t.qual t.params t.body t.scope cl pm c ct),toks:=tk }:=by
 refine I.laid (t':=tk) (fun b o e=>z5t _ (hk b o e)) hsz ?_;refine⟨z6o _ rfl,⟨_,z6o _ rfl⟩,fun h1 h2 p k=>k _ p⟩
def z2h(K:Frag)(mg:zMg)(j:Nat)(x:Str)(t:LT)(cl:zLA):TE:=fun σ H Q=>∃ρ S,StOk K mg ρ H S/\S[j]? = some (.tab x t.qual) /\
 ∀a c pm ct H',Ext ρ H ρ H'->StOk K mg ρ H' S->a∉ρ->c∉ρ->H' a=some (.ext (zsf t cl a c pm ct))->H' c=some (.ext (zau c t.qual))->Q (.ref a) H'
theorem zy8{x:Str}{params:Arguments}{body:Expr}{scope:Scope}{pos:Pos}{caps:List Str}(j:Nat)(hcd:zky X.K X.mg x X.env.code)(hb:zqc X.base X.mg)(hcl:closureFor scope X.env=pure cl)(hdef:defaultsOf params X.env=([],[]):=by rfl) :
   PE X (.Lambda params body scope pos) (z2h X.K X.mg j x ⟨params,body,scope,X.env.qual++"<lambda>",caps,[]⟩ cl):=by
 intro pins s σ H Q I h;obtain⟨ρ,S,hS,hj,k⟩:=h;obtain⟨P,hP,T,ps,hps,htr,hcs⟩:=hS.adr hj;obtain⟨f1,o1,fd1,c1,e1,e2,e3,e4,e5⟩:=T;obtain⟨f2,o2,fd2,g1,g2,g3,g4⟩:=hcd;rw[e1]at g1;cases g1;rw[e2]at g2;cases g2;rw[e3]at g3;cases g3;have hcode:X.env.code=.ref c1:=g4.symm.trans e4;have C:CodeHd s.heap c1 P:=codeHd_of_K I.kIn e5;have hPt:s.heap.get? P=some (tabObj ps):=I.hok P _ hps;have bs:=I.bs;have nP:∀b o,X.base.get? b=some o->b≠P:=fun b o e z=>by have:=(bs b o e).2;rw[z,hps]at this;cases this
 have hg:s.heap.Ns mainGlobals X.mg:=by obtain⟨o,es,ep,ho,r⟩:=I.mod.glob;exact⟨o,es,ep,I.bk _ _ ho,r⟩
 have hgP:mainGlobals≠P:=by obtain⟨o,es,ep,ho,r⟩:=I.mod.glob;exact nP _ _ ho
 obtain⟨bm,ob,b1,b2,b3,b4,b5,b6,b7⟩:=hb;have hBA:s.heap.BuiltinsAt X.mg P:=⟨bm,ob,b1,b2,b3,nP _ _ b4,I.bk _ _ b4,b5,b6,b7⟩
 refine kla_eval hdef ?_;cases hca:codeAmong pos ps.toList with
 | none=>
   refine kla_makeFunction hcl I.ok.glob hg hcode C hPt htr hca hgP hBA fun c' ctv h' tk hx hge hlt hrec htb=>?_;have hn:H c'=none:=I.hok.fresh hge;have I1:=zv8 (q:=X.env.qual++"<lambda>") (tk:=tk) I hps hx htb hge hrec;have I2:=zon (t:=⟨params,body,scope,X.env.qual++"<lambda>",caps,[]⟩) (cl:=cl) (c:=c') (pm:=(X.mg "__name__").getD .none) (ct:=ctv) (h':=h') (tk:=tk) I1 (fun _ _ e=>e) (z5p _);obtain⟨E1,S1⟩:=zqn (a:=pos.line) (b:=pos.col) hS hj hP hps hn;have hf:=I1.hok.fresh (a:=h'.objs.size) (z5p _);have E2:=jx S1 (.ext (zsf ⟨params,body,scope,X.env.qual++"<lambda>",caps,[]⟩ cl h'.objs.size c' ((X.mg "__name__").getD .none) ctv)) hf;exact⟨.ref h'.objs.size,_,I2,rfl,k _ c' _ _ _ (E1.trans E2) (S1.new _ hf) (S1.fresh hf) (hS.fresh hn) qg (by rw[z0 (z56 hlt),qg])⟩
 | some cv=>
   obtain⟨c',rfl,nc,hc'⟩:=hcs pos cv hca;refine kla_makeFunctionHit hcl I.ok.glob hg hcode C hPt htr hca hBA fun ctv h' tk hk hsz=>?_;have hf:H h'.objs.size=none:=I.hok.fresh hsz;have I2:=zon (t:=⟨params,body,scope,X.env.qual++"<lambda>",caps,[]⟩) (cl:=cl) (c:=c') (pm:=(X.mg "__name__").getD .none) (ct:=ctv) (h':=h') (tk:=tk) I hk hsz;have E2:=jx hS (.ext (zsf ⟨params,body,scope,X.env.qual++"<lambda>",caps,[]⟩ cl h'.objs.size c' ((X.mg "__name__").getD .none) ctv)) hf;exact⟨.ref h'.objs.size,_,I2,rfl,k _ c' _ _ _ E2 (hS.new _ hf) (hS.fresh hf) nc qg (E2.keep _ _ hc' nc)⟩
end
end F
namespace F
open PySem L2 PySem.Spec PyProof.Rows PySem.W
section
variable {X:Cx}{o e lo hi:Expr}{pos pos' p2:Pos}{f h:E}{u w:Pt}
def z33(f:E)(a b:Pt)(v:E):C:=fun ev S=>(v ev S).bind fun p=>(f ev p.2).bind fun q=>(a ev q.2).bind fun r=>(b ev r.2).bind fun t=>match p.1,q.1,r.1,t.1 with
 | .lst ys,.obj i,some lo,some hi=>(match t.2[i]? with
   |some (.lst ds)=>if 0<=lo/\lo<=hi/\hi<=ds.length/\ds.length+ys.length<=sizeLine then some (.nx ev,t.2.set i (.lst (ds.take lo.toNat++ys++ds.drop hi.toNat)))else none
   |_=>none)
 |_,_,_,_=>none
end
section
variable {X:Cx}{K:Frag}{mg:zMg}{a b:Expr}{f g:E}{pos:Pos}
def z1k(S:Sto):D->Option (List D)
 | .lst ds=>some ds
 | .obj a=>(match S[a]? with
   |some (.lst ds)=>some ds
   |_=>none)
 |_=>none
end
end F
namespace F
open PySem L2 PySem.Spec PyProof.Rows
section
open PySem.SeqAt
open PySem.AutoSeq1 (wpAny_loadPart')
open PySem.MeetsSeq PySem.MeetsSeq2 PySem.MeetsSeq3
end
section
variable {prog:Program}{w:World}{A:Around}{E:zVP}{s:Shared}
end
section
open Classical
def yx(a:Nat)(us:List D)(c:B)(g:E)(fr:Ev):List D->Sto->Option (List D×Sto)
 | [],S=>if S[a]? = some (.lst us)then some ([],S)else none
 |d::ds,S=>if S[a]? = some (.lst us)then (c (some d::fr) S).bind fun p=>if p.1=true then (g (some d::fr) p.2).bind fun q=>(yx a us c g fr ds q.2).bind fun r=>some (q.1::r.1,r.2)else yx a us c g fr ds p.2 else none
end
theorem zpu{a:Nat}{us:List D}{c:B}{g:E}{fr:Ev}{ds:List D}{S:Sto}{r:List D×Sto}(h:yx a us c g fr ds S=some r):S[a]? = some (.lst us):=by
 cases ds with
 | nil=>
   unfold yx at h;split at h
   · assumption
   · cases h
 | cons d ds=>
   unfold yx at h;split at h
   · assumption
   · cases h
theorem zlu{a:Nat}{us:List D}{c:B}{g:E}{fr:Ev}{S:Sto}(h:S[a]? = some (.lst us)):yx a us c g fr [] S=some ([],S):=by unfold yx;rw[z55 h]
theorem ziz{a:Nat}{us:List D}{c:B}{g:E}{fr:Ev}{d:D}{ds:List D}{S:Sto}(h:S[a]? = some (.lst us)):yx a us c g fr (d::ds) S=(c (some d::fr) S).bind fun p=>if p.1=true then (g (some d::fr) p.2).bind fun q=>(yx a us c g fr ds q.2).bind fun r=>some (q.1::r.1,r.2)else yx a us c g fr ds p.2:=by rw[yx,z55 h]
end F
namespace Srt
open PySem PyProof.Rows
def j7:Bool->Keyed->Array Keyed->Nat->Nat->Nat->StateT SortSt Sem (Option Nat):=sortPriv% PySem.Builtin.gallop
def ziw(beyond:Nat->StateT SortSt Sem (Option Bool))(n hint:Nat):StateT SortSt Sem (Option Nat):=do
 let mut lastofs:=0
 let mut ofs:=1
 let mut lo:=0
 let mut hi:=0
 let some right <-beyond hint | return none
 if right then
   let maxofs:=n-hint
   for _ in [0:n] do
     if ofs ≥ maxofs then break
     let some more <-beyond (hint+ofs) | return none
     if !more then break
     lastofs:=ofs
     ofs:=2*ofs+1
   lo:=hint+lastofs+1
   hi:=hint+min ofs maxofs
 else
   let maxofs:=hint+1
   for _ in [0:n] do
     if ofs ≥ maxofs then break
     let some found <-beyond (hint-ofs) | return none
     if found then break
     lastofs:=ofs
     ofs:=2*ofs+1
   lo:=hint+1-min ofs maxofs
   hi:=hint-lastofs
 for _ in [0:n] do
   if lo ≥ hi then break
   let m:=lo+(hi-lo)/2
   let some more <-beyond m | return none
   if more then lo:=m+1 else hi:=m
 return some hi
def byd(left:Bool)(key:Keyed)(arr:Array Keyed)(base i:Nat):StateT SortSt Sem (Option Bool):=do
 let x <-elem' arr (base+i)
 if left then lt' x key else return(<-lt' key x).map (!·)
theorem zan(left:Bool)(key:Keyed)(arr:Array Keyed)(base n hint:Nat):j7 left key arr base n hint=ziw (byd left key arr base) n hint:=rfl
section
variable {M:Model}{A:Around}{E:zVP}{s:Shared}{n hint:Nat}{P:Nat->Bool}{beyond:Nat->StateT SortSt Sem (Option Bool)}{st:SortSt}
def zs5(beyond:Nat->StateT SortSt Sem (Option Bool))(n:Nat)(c:Option (Option Nat)×Nat×Nat):StateT SortSt Sem (Option (Option Nat)×Nat×Nat) :=
 forIn [0:n] c fun x __s=>
   if __s.snd.fst ≥ __s.snd.snd then pure (ForInStep.done (none,__s.snd.fst,__s.snd.snd))
   else do
     let __x <-beyond (__s.snd.fst+(__s.snd.snd-__s.snd.fst)/2)
     match __x with
     | some more=>
       if more=true then pure (ForInStep.yield (none,__s.snd.fst+(__s.snd.snd-__s.snd.fst)/2+1,__s.snd.snd))
       else pure (ForInStep.yield (none,__s.snd.fst,__s.snd.fst+(__s.snd.snd-__s.snd.fst)/2))
     |_=>pure (ForInStep.done (some none,__s.snd.fst,__s.snd.snd))
theorem zee(hb:∀i,i<n->∀Q:Option Bool->SortSt->Prop,Q (some (P i)) st->wpS M A E s (beyond i) Q st)(hP:∀i j,i<=j->j<n->P j=true->P i=true){lo hi:Nat}(h1:lo<=hi)(h2:hi<=n)(h3:∀i,i<lo->P i=true)(h4:∀i,hi<=i->i<n->P i=false){Q:Option (Option Nat)×Nat×Nat->SortSt->Prop}
   (h:∀k,k<=n->(∀i,i<k->P i=true)->(∀i,k<=i->i<n->P i=false)->Q (none,k,k) st):wpS M A E s (zs5 beyond n (none,lo,hi)) Q st:=by
 unfold zs5;refine z69 (I:=fun x c st'=>st'=st/\∃lo hi,c=(none,lo,hi)/\lo<=hi/\hi<=n/\(∀i,i<lo->P i=true)/\(∀i,hi<=i->i<n->P i=false)/\hi+x<=n+lo) ?_ ?_ ⟨rfl,lo,hi,rfl,h1,h2,h3,h4,z6h h2 (z6f ..)⟩
 · rintro x c st' _ hx ⟨rfl,lo,hi,rfl,h1,h2,h3,h4,h5⟩;dsimp only;by_cases e:lo ≥ hi
   · rw[z55 e];cases z8p h1 e;exact z53 (h lo h2 h3 h4)
   · rw[z6c e];have m1:lo<=lo+(hi-lo)/2:=z6f ..;have m2:lo+(hi-lo)/2<hi:=by omega
     clear e h1;generalize lo+(hi-lo)/2=m at m1 m2 ⊢;have mn:=z5q m2 h2;refine z5w (hb _ mn _ ?_);dsimp only;cases hm:P m
     · simp only[z50,z61];refine z53 ⟨rfl,lo,m,rfl,m1,z7g mn,h3,fun i hi1 hi2=>?_,by omega⟩;cases q:P i
       · rfl
       · rw[hP _ _ hi1 hi2 q]at hm;cases hm
     · simp only[z7l];exact z53 ⟨rfl,m+1,hi,rfl,m2,h2,fun i hi1=>hP i _ (z92 hi1) mn hm,h4,by omega⟩
 · rintro c st' ⟨rfl,lo,hi,rfl,h1,h2,h3,h4,h5⟩;have:lo=hi:=by omega
   subst this;exact h lo h2 h3 h4
theorem yg(hb:∀i,i<n->∀Q:Option Bool->SortSt->Prop,Q (some (P i)) st->wpS M A E s (beyond i) Q st)(hP:∀i j,i<=j->j<n->P j=true->P i=true)(hh:hint<n){Q:Option Nat->SortSt->Prop}
   (h:∀k,k<=n->(∀i,i<k->P i=true)->(∀i,k<=i->i<n->P i=false)->Q (some k) st):wpS M A E s (ziw beyond n hint) Q st:=by
 unfold ziw;refine z5w (hb hint hh _ ?_);dsimp only;cases hr:P hint
 · simp only[z50,z61];refine z5w (z7f (z69 (I:=fun x c st'=>st'=st/\∃l o,c=(none,l,o)/\l<o/\l<=hint/\P (hint-l)=false/\x<=o)
     (Q:=fun c st'=>st'=st/\∃l o,c=(none,l,o)/\l<o/\l<=hint/\P (hint-l)=false/\(hint+1<=o\/P (hint-o)=true)) ?_ ?_ ⟨rfl,0,1,rfl,Nat.one_pos,z66 _,hr,z66 _⟩) ?_)
   · rintro x c st' _ hx ⟨rfl,l,o,rfl,g1,g2,g3,g4⟩;dsimp only;by_cases e:o ≥ hint+1
     · rw[z55 e];exact z53 ⟨rfl,l,o,rfl,g1,g2,g3,.inl e⟩
     · rw[z6c e];refine z5w (hb _ (z70 (qbn ..) hh) _ ?_);dsimp only;cases hm:P (hint-o)
       · simp only[z50,z61];have e':=Nat.lt_of_not_le e;clear e g1 g2 hx hh;exact z53 ⟨rfl,o,2*o+1,rfl,by omega,z92 e',hm,by omega⟩
       · simp only[z7l];exact z53 ⟨rfl,l,o,rfl,g1,g2,g3,.inr hm⟩
   · rintro c st' ⟨rfl,l,o,rfl,g1,g2,g3,g4⟩;exact⟨rfl,l,o,rfl,g1,g2,g3,.inl (by omega)⟩
   · rintro c st2 ⟨rfl,l,o,rfl,g1,g2,g3,g4⟩;dsimp only;refine z5w (z7f (zee hb hP (lo:=hint+1-min o (hint+1)) (hi:=hint-l) (by omega) (by omega) (fun i hi=>?_) (fun i h1 h2=>?_) (Q:=fun c st'=>st'=st2/\∃k,c=(none,k,k)/\k<=n/\(∀i,i<k->P i=true)/\(∀i,k<=i->i<n->P i=false)) fun k k1 k2 k3=>⟨rfl,k,rfl,k1,k2,k3⟩) ?_)
     · rcases g4 with g4 | g4
       · omega
       · exact hP i _ (by omega) (by omega) g4
     · cases q:P i
       · rfl
       · rw[hP _ _ h1 h2 q]at g3;cases g3
     · rintro c st' ⟨rfl,k,rfl,k1,k2,k3⟩;exact z53 (h k k1 k2 k3)
 · simp only[z7l];refine z5w (z7f (z69 (I:=fun x c st'=>st'=st/\∃l o,c=(none,l,o)/\l<o/\hint+l<n/\P (hint+l)=true/\x<=o)
     (Q:=fun c st'=>st'=st/\∃l o,c=(none,l,o)/\l<o/\hint+l<n/\P (hint+l)=true/\(n-hint<=o\/P (hint+o)=false)) ?_ ?_ ⟨rfl,0,1,rfl,Nat.one_pos,hh,hr,z66 _⟩) ?_)
   · rintro x c st' _ hx ⟨rfl,l,o,rfl,g1,g2,g3,g4⟩;dsimp only;by_cases e:o ≥ n-hint
     · rw[z55 e];exact z53 ⟨rfl,l,o,rfl,g1,g2,g3,.inl e⟩
     · rw[z6c e];have e':hint+o<n:=by clear g1 g2 g4 hx hh;omega
       refine z5w (hb _ e' _ ?_);dsimp only;cases hm:P (hint+o)
       · simp only[qbk,z7l];exact z53 ⟨rfl,l,o,rfl,g1,g2,g3,.inr hm⟩
       · simp only[z8d,z50,z61];clear e g1 g2 hx hh;exact z53 ⟨rfl,o,2*o+1,rfl,by omega,e',hm,by omega⟩
   · rintro c st' ⟨rfl,l,o,rfl,g1,g2,g3,g4⟩;exact⟨rfl,l,o,rfl,g1,g2,g3,.inl (by omega)⟩
   · rintro c st2 ⟨rfl,l,o,rfl,g1,g2,g3,g4⟩;dsimp only;refine z5w (z7f (zee hb hP (lo:=hint+l+1) (hi:=hint+min o (n-hint)) (by omega) (by omega) (fun i hi=>hP i _ (z92 hi) g2 g3) (fun i h1 h2=>?_) (Q:=fun c st'=>st'=st2/\∃k,c=(none,k,k)/\k<=n/\(∀i,i<k->P i=true)/\(∀i,k<=i->i<n->P i=false)) fun k k1 k2 k3=>⟨rfl,k,rfl,k1,k2,k3⟩) ?_)
     · rcases g4 with g4 | g4
       · omega
       · cases q:P i
         · rfl
         · rw[hP (hint+o) i (by omega) h2 q]at g4;cases g4
     · rintro c st' ⟨rfl,k,rfl,k1,k2,k3⟩;exact z53 (h k k1 k2 k3)
end
def zfg:Array Keyed->Array Keyed->StateT SortSt Sem (Array Keyed):=sortPriv% PySem.Builtin.mergeLo
def zfh:Array Keyed->Array Keyed->StateT SortSt Sem (Array Keyed):=sortPriv% PySem.Builtin.mergeHi
abbrev zbb(st:SortSt)(g:Nat):SortSt:=SortSt.mk' (kindOf st) (arrOf st) (pendingOf st) g (failedOf st)
def smg(g:Nat):StateT SortSt Sem Unit:=modify fun st=>zbb st g
theorem zik(a b:Array Keyed):zfg a b=(do
 rule "list.sort.merge-lo"
 let total:=a.size+b.size
 let done (out:Array Keyed) (ia ib:Nat):=out++a.extract ia a.size++b.extract ib b.size
 let lastOfA (out:Array Keyed) (ia ib:Nat):=out++b.extract ib b.size++a.extract ia a.size
 let mut out:Array Keyed:=#[<-elem' b 0]
 let mut ia:=0
 let mut ib:=1
 if ib==b.size then return done out ia ib
 if ia+1==a.size then return lastOfA out ia ib
 let mut minGallop:=gallopOf (<-get)
 for _ in [0:total] do
   let mut acount:=0
   let mut bcount:=0
   for _ in [0:total] do
     let some bWins <-lt' (<-elem' b ib) (<-elem' a ia) | return done out ia ib
     if bWins then
       out:=out.push (<-elem' b ib);ib:=ib+1;bcount:=bcount+1;acount:=0
       if ib==b.size then return done out ia ib
       if bcount ≥ minGallop then break
     else
       out:=out.push (<-elem' a ia);ia:=ia+1;acount:=acount+1;bcount:=0
       if ia+1==a.size then return lastOfA out ia ib
       if acount ≥ minGallop then break
   rule "list.sort.gallop"
   minGallop:=minGallop+1
   for _ in [0:total] do
     if minGallop>1 then minGallop:=minGallop-1
     smg minGallop
     let some k <-j7 false (<-elem' b ib) a ia (a.size-ia) 0 | return done out ia ib
     acount:=k
     if k>0 then
       out:=out++a.extract ia (ia+k);ia:=ia+k
       if ia+1==a.size then return lastOfA out ia ib
       if ia==a.size then return done out ia ib
     out:=out.push (<-elem' b ib);ib:=ib+1
     if ib==b.size then return done out ia ib
     let some k <-j7 true (<-elem' a ia) b ib (b.size-ib) 0 | return done out ia ib
     bcount:=k
     if k>0 then
       out:=out++b.extract ib (ib+k);ib:=ib+k
       if ib==b.size then return done out ia ib
     out:=out.push (<-elem' a ia);ia:=ia+1
     if ia+1==a.size then return lastOfA out ia ib
     if acount<7&&bcount<7 then break
   minGallop:=minGallop+1
   smg minGallop
 unsupported "internal:list.sort.merge-bound"):=rfl
section
variable {blt:Keyed->Keyed->Bool}
def le(blt:Keyed->Keyed->Bool)(x y:Keyed):Prop:=blt y x=false
structure Mg (blt:Keyed->Keyed->Bool) (T O A B:List Keyed):Prop where
 pa:(O++A).Pairwise (le blt)
 pb:(O++B).Pairwise (le blt)
 pm:(O++(A++B)).Perm T
def zw9(blt:Keyed->Keyed->Bool)(T:List Keyed)(r:List Keyed):Prop:=r.Pairwise (le blt)/\r.Perm T
variable {T O A B C:List Keyed}
theorem Mg.chunkA(h:Mg blt T O (C++A) B)(hc:∀x∈C,∀z∈B,le blt x z):Mg blt T (O++C) A B:=by
 refine⟨by rw[z59];exact h.pa,?_,?_⟩
 · have h1:=z5r.mp h.pa;have h2:=z5r.mp h.pb;have h3:=z5r.mp h1.2.1;refine z5r.mpr ⟨z5r.mpr ⟨h1.1,h3.1,fun x hx y hy=>h1.2.2 x hx y (z6w _ hy)⟩,h2.2.1,fun x hx z hz=>?_⟩;rcases z6i.mp hx with hx | hx
   · exact h2.2.2 x hx z hz
   · exact hc x hx z hz
 · have:=h.pm;rw[z59]at this ⊢;exact this
theorem Mg.chunkB(h:Mg blt T O A (C++B))(hc:∀x∈C,∀z∈A,le blt x z):Mg blt T (O++C) A B:=by
 refine⟨?_,by rw[z59];exact h.pb,?_⟩
 · have h1:=z5r.mp h.pb;have h2:=z5r.mp h.pa;have h3:=z5r.mp h1.2.1;refine z5r.mpr ⟨z5r.mpr ⟨h1.1,h3.1,fun x hx y hy=>h1.2.2 x hx y (z6w _ hy)⟩,h2.2.1,fun x hx z hz=>?_⟩;rcases z6i.mp hx with hx | hx
   · exact h2.2.2 x hx z hz
   · exact hc x hx z hz
 · refine List.Perm.trans ?_ h.pm;rw[z59];refine z8e O ?_;rw[<-z59,<-z59];exact z78 B z84
theorem Mg.finA(h:Mg blt T O A []):zw9 blt T (O++A):=⟨h.pa,by have:=h.pm;rw[z6e]at this;exact this⟩
theorem Mg.finB(h:Mg blt T O [] B):zw9 blt T (O++B):=⟨h.pb,h.pm⟩
theorem Mg.lastA{x:Keyed}(h:Mg blt T O [x] B)(hx:∀z∈B,le blt z x):zw9 blt T (O++(B++[x])):=by
 refine⟨?_,List.Perm.trans (z8e O z84) h.pm⟩;have h1:=z5r.mp h.pa;have h2:=z5r.mp h.pb;refine z5r.mpr ⟨h1.1,z5r.mpr ⟨h2.2.1,z8t _ _,fun z hz y hy=>by rw[z6a.mp hy];exact hx z hz⟩,fun y hy z hz=>?_⟩;rcases z6i.mp hz with hz | hz
 · exact h2.2.2 y hy z hz
 · exact h1.2.2 y hy z hz
theorem Mg.len(h:Mg blt T O A B):O.length+A.length+B.length=T.length:=by have:=h.pm.length_eq;simp only[z5n]at this;omega
def ix(a:Array Keyed)(i:Nat):Keyed:=(a[i]?).getD (.none,.none)
variable {a b:Array Keyed}{i j k:Nat}
theorem zj7(h:i<a.size):a[i]? = some (ix a i):=by unfold ix;rw[z6k h];rfl
theorem ziy(h:i<a.size):a.toList.drop i=ix a i::a.toList.drop (i+1):=by
 have e:a.toList[i]'(by simpa using h)=ix a i:=by unfold ix;rw[z6k h];simp
 rw[<-e];exact z60 (by simpa using h)
theorem zpp(h:i+k<=a.size):a.toList.drop i=(a.extract i (i+k)).toList++a.toList.drop (i+k):=by rw[z71,List.extract_eq_drop_take];rw[show i+k-i=k by omega,<-z94];exact(z7i k _).symm
theorem zj3{x:Keyed}(h:x∈(a.extract i (i+k)).toList):∃j,j<k/\i+j<a.size/\x=ix a (i+j):=by rw[z71,List.extract_eq_drop_take,show i+k-i=k by omega]at h;obtain⟨j,hj,e⟩:=z6g h;rw[z6m,z6l,Array.length_toList]at hj;refine⟨j,by omega,by omega,?_⟩;rw[z75,z76]at e;rw[<-e];unfold ix;rw[z6k (by omega)];simp
theorem zal{x:Keyed}(h:x∈a.toList.drop i):∃j,i<=j/\j<a.size/\x=ix a j:=by obtain⟨j,hj,e⟩:=z6g h;rw[z6l,Array.length_toList]at hj;refine⟨i+j,by omega,by omega,?_⟩;rw[z76]at e;rw[<-e];unfold ix;rw[z6k (by omega)];simp
theorem ki(h:i<a.size):ix a i∈a.toList:=by
 have e:a.toList[i]'(by simpa using h)=ix a i:=by unfold ix;rw[z6k h];simp
 rw[<-e];exact z8b _
theorem zkj:(a.extract i a.size).toList=a.toList.drop i:=by rw[z71,List.extract_eq_drop_take];rw[<-Array.length_toList,z7d (by rw[z6l];omega)]
def zqe(blt:Keyed->Keyed->Bool)(a:Array Keyed):Prop:=∀i j,i<=j->j<a.size->le blt (ix a i) (ix a j)
theorem ze6(h:zqe blt a):a.toList.Pairwise (le blt):=by
 rw[z7e];intro i j hi hj hij;have e:∀{i} (h:i<a.toList.length),a.toList[i]=ix a i:=fun {i} h=>by rw[Array.length_toList]at h;unfold ix;rw[z6k h];simp
 rw[e hi,e hj];exact h i j (by omega) (by rw[Array.length_toList]at hj;exact hj)
end
section
variable {prog:Program}{w:World}{A:Around}{E:zVP}{s:Shared}{blt:Keyed->Keyed->Bool}{U:Keyed->Prop}{kd:SortKind}{st:SortSt}{a b:Array Keyed}
structure Cmp (prog:Program) (w:World) (A:Around) (E:zVP) (s:Shared) (kd:SortKind) (U:Keyed->Prop) (blt:Keyed->Keyed->Bool):Prop where
 lt:∀x y,U x->U y->∀(st:SortSt) (Q:Option Bool->SortSt->Prop),kindOf st=kd->Q (some (blt x y)) st->wpS (model prog w) A E s (lt' x y) Q st
 asy:∀x y,blt x y=true->blt y x=false
 tr:∀x y z,blt y x=false->blt z y=false->blt z x=false
theorem qf{i:Nat}{Q:Keyed->SortSt->Prop}{M:Model}(hi:i<a.size)(h:Q (ix a i) st):wpS M A E s (elem' a i) Q st:=by rw[elem'_eq,zj7 hi];exact z53 h
theorem zaf{nm:String}{Q:Unit->SortSt->Prop}(h:Q () st):wpS (model prog w) A E s (liftM (rule nm):StateT SortSt Sem Unit) Q st:=wpS_lift (wpAny_rule ⟨rfl,h⟩)
theorem ze1{g:Nat}{Q:Unit->SortSt->Prop}{M:Model}(h:Q () (zbb st g)):wpS M A E s (smg g) Q st:=z8x h
theorem zjc(C:Cmp prog w A E s kd U blt)(hk:kindOf st=kd){y:Keyed}{i n hint:Nat}(uy:U y)(ua:∀x∈a.toList,U x)(sa:zqe blt a)(hn:i+n<=a.size)(hh:hint<n){Q:Option Nat->SortSt->Prop}
   (h:∀k,k<=n->(∀j,j<k->le blt (ix a (i+j)) y)->(∀j,k<=j->j<n->blt y (ix a (i+j))=true)->Q (some k) st):wpS (model prog w) A E s (j7 false y a i n hint) Q st:=by
 rw[zan];refine yg (P:=fun j=>!(blt y (ix a (i+j)))) (fun j hj Q hq=>?_) (fun j l hjl hl hp=>?_) hh fun k k1 k2 k3=>h k k1 (fun j hj=>by have:=k2 j hj;unfold le;simpa using this) (fun j h1 h2=>by have:=k3 j h1 h2;simpa using this)
 · unfold byd;refine z5w (qf (by omega) ?_);simp only[z50,z61];exact z5w (C.lt _ _ uy (ua _ (ki (by omega))) _ _ hk (z53 hq))
 · have e:blt y (ix a (i+l))=false:=by simpa using hp
   have:=C.tr _ _ _ (sa (i+j) (i+l) (by omega) (by omega)) e;simp[this]
theorem zjb(C:Cmp prog w A E s kd U blt)(hk:kindOf st=kd){x:Keyed}{i n hint:Nat}(ux:U x)(ub:∀x∈b.toList,U x)(sb:zqe blt b)(hn:i+n<=b.size)(hh:hint<n){Q:Option Nat->SortSt->Prop}
   (h:∀k,k<=n->(∀j,j<k->blt (ix b (i+j)) x=true)->(∀j,k<=j->j<n->le blt x (ix b (i+j)))->Q (some k) st):wpS (model prog w) A E s (j7 true x b i n hint) Q st:=by
 rw[zan];refine yg (P:=fun j=>blt (ix b (i+j)) x) (fun j hj Q hq=>?_) (fun j l hjl hl hp=>?_) hh h
 · unfold byd;refine z5w (qf (by omega) ?_);simp only[z7l];exact C.lt _ _ (ub _ (ki (by omega))) ux _ _ hk hq
 · cases q:blt (ix b (i+j)) x
   · have:=C.tr x (ix b (i+j)) (ix b (i+l)) q (sb (i+j) (i+l) (by omega) (by omega));rw[this]at hp;cases hp
   · rfl
structure At (blt:Keyed->Keyed->Bool) (a b out:Array Keyed) (ia ib:Nat):Prop where
 ha:ia+1<a.size
 hb:ib<b.size
 mg:Mg blt (a.toList++b.toList) out.toList (a.toList.drop ia) (b.toList.drop ib)
structure Two (blt:Keyed->Keyed->Bool) (U:Keyed->Prop) (a b:Array Keyed):Prop where
 sa:zqe blt a
 sb:zqe blt b
 ua:∀x∈a.toList,U x
 ub:∀x∈b.toList,U x
 la:∀z∈b.toList,le blt z (ix a (a.size-1))
abbrev kz(blt:Keyed->Keyed->Bool)(a b r:Array Keyed):Prop:=zw9 blt (a.toList++b.toList) r.toList
variable {out:Array Keyed}{ia ib k:Nat}
theorem At.le(h:At blt a b out ia ib):out.size+3<=a.size+b.size:=by have:=h.mg.len;simp only[z6l,z5n,Array.length_toList]at this;have:=h.ha;have:=h.hb;omega
theorem zbu(m:Mg blt (a.toList++b.toList) out.toList (a.toList.drop ia) (b.toList.drop ib))(hb:ib=b.size\/ia=a.size):kz blt a b (out++a.extract ia++b.extract ib):=by
 unfold kz;rw[z6t,z6t,zkj,zkj];rcases hb with rfl | rfl
 · rw[z79 (l:=b.toList) (by simp)]at m ⊢;rw[z6e];exact m.finA
 · rw[z79 (l:=a.toList) (by simp)]at m ⊢;rw[z6e];exact m.finB
theorem zcx(T:Two blt U a b)(m:Mg blt (a.toList++b.toList) out.toList (a.toList.drop ia) (b.toList.drop ib))(ha:ia+1=a.size):kz blt a b (out++b.extract ib++a.extract ia):=by
 unfold kz;rw[z6t,z6t,zkj,zkj,z59];have e:a.toList.drop ia=[ix a ia]:=by rw[ziy (by omega),z79 (by simp;omega)]
 rw[e]at m ⊢;refine m.lastA fun z hz=>?_;have:=T.la z (z9e hz);rw[show a.size-1=ia by omega]at this;exact this
theorem znl(C:Cmp prog w A E s kd U blt)(T:Two blt U a b)(m:Mg blt (a.toList++b.toList) out.toList (a.toList.drop ia) (b.toList.drop ib))(hb:ib<b.size)(ha:ia<a.size->blt (ix b ib) (ix a ia)=true):Mg blt (a.toList++b.toList) (out.push (ix b ib)).toList (a.toList.drop ia) (b.toList.drop (ib+1)):=by rw[ziy hb]at m;rw[z9b];refine Mg.chunkB (C:=[ix b ib]) m fun x hx z hz=>?_;rw[z6a.mp hx];obtain⟨j,j1,j2,rfl⟩:=zal hz;exact C.tr _ _ _ (C.asy _ _ (ha (by omega))) (T.sa ia j j1 j2)
theorem zte(C:Cmp prog w A E s kd U blt)(T:Two blt U a b)(m:Mg blt (a.toList++b.toList) out.toList (a.toList.drop ia) (b.toList.drop ib))(ha:ia<a.size)(hb:ib<b.size->le blt (ix a ia) (ix b ib)):Mg blt (a.toList++b.toList) (out.push (ix a ia)).toList (a.toList.drop (ia+1)) (b.toList.drop ib):=by rw[ziy ha]at m;rw[z9b];refine Mg.chunkA (C:=[ix a ia]) m fun x hx z hz=>?_;rw[z6a.mp hx];obtain⟨j,j1,j2,rfl⟩:=zal hz;exact C.tr _ _ _ (hb (by omega)) (T.sb ib j j1 j2)
theorem zxy(C:Cmp prog w A E s kd U blt)(T:Two blt U a b)(m:Mg blt (a.toList++b.toList) out.toList (a.toList.drop ia) (b.toList.drop ib))(hk:ia+k<=a.size)(h:∀j,j<k->le blt (ix a (ia+j)) (ix b ib)):Mg blt (a.toList++b.toList) (out++a.extract ia (ia+k)).toList (a.toList.drop (ia+k)) (b.toList.drop ib):=by rw[zpp hk]at m;rw[z6t];refine Mg.chunkA m fun x hx z hz=>?_;obtain⟨j,j1,j2,rfl⟩:=zj3 hx;obtain⟨l,l1,l2,rfl⟩:=zal hz;exact C.tr _ _ _ (h j j1) (T.sb ib l l1 l2)
theorem zxx(C:Cmp prog w A E s kd U blt)(T:Two blt U a b)(m:Mg blt (a.toList++b.toList) out.toList (a.toList.drop ia) (b.toList.drop ib))(hk:ib+k<=b.size)(h:∀j,j<k->blt (ix b (ib+j)) (ix a ia)=true):Mg blt (a.toList++b.toList) (out++b.extract ib (ib+k)).toList (a.toList.drop ia) (b.toList.drop (ib+k)):=by rw[zpp hk]at m;rw[z6t];refine Mg.chunkB m fun x hx z hz=>?_;obtain⟨j,j1,j2,rfl⟩:=zj3 hx;obtain⟨l,l1,l2,rfl⟩:=zal hz;exact C.tr _ _ _ (C.asy _ _ (h j j1)) (T.sa ia l l1 l2)
end
section
variable {prog:Program}{w:World}{A:Around}{E:zVP}{s:Shared}{blt:Keyed->Keyed->Bool}{U:Keyed->Prop}{kd:SortKind}{st:SortSt}{a b:Array Keyed}
abbrev Gs:=Option (Array Keyed)×Array Keyed×Nat×Nat×Nat×Nat×Nat
def zq1(a b out:Array Keyed)(ia ib mg k k1:Nat):StateT SortSt Sem (ForInStep Gs):=do
 let x <-elem' a ia
 if(ia+1+1==a.size)=true then pure (ForInStep.done (some (out.push x++b.extract ib++a.extract (ia+1)),out.push x,ia+1,ib,mg,k,k1))
 else if(decide (k<7)&&decide (k1<7))=true then pure (ForInStep.done (none,out.push x,ia+1,ib,mg,k,k1))else pure (ForInStep.yield (none,out.push x,ia+1,ib,mg,k,k1))
def zq2(a b out:Array Keyed)(ia ib mg k bc:Nat):StateT SortSt Sem (ForInStep Gs):=do
 let y <-elem' b ib
 if(ib+1==b.size)=true then pure (ForInStep.done (some (out.push y++a.extract ia++b.extract (ib+1)),out.push y,ia,ib+1,mg,k,bc))
 else do
   let x <-elem' a ia
   let r <-j7 true x b (ib+1) (b.size-(ib+1)) 0
   match r with
   | some k1=>
     if k1>0 then
       if(ib+1+k1==b.size)=true then pure (ForInStep.done (some (out.push y++b.extract (ib+1) (ib+1+k1)++a.extract ia++b.extract (ib+1+k1)),out.push y++b.extract (ib+1) (ib+1+k1),ia,ib+1+k1,mg,k,k1))
       else zq1 a b (out.push y++b.extract (ib+1) (ib+1+k1)) ia (ib+1+k1) mg k k1
     else zq1 a b (out.push y) ia (ib+1) mg k k1
   |_=>pure (ForInStep.done (some (out.push y++a.extract ia++b.extract (ib+1)),out.push y,ia,ib+1,mg,k,bc))
def z1r(a b out:Array Keyed)(ia ib mg ac bc:Nat):StateT SortSt Sem (ForInStep Gs):=do
 smg mg
 let y <-elem' b ib
 let r <-j7 false y a ia (a.size-ia) 0
 match r with
 | some k=>
   if k>0 then
     if(ia+k+1==a.size)=true then pure (ForInStep.done (some (out++a.extract ia (ia+k)++b.extract ib++a.extract (ia+k)),out++a.extract ia (ia+k),ia+k,ib,mg,k,bc))
     else if(ia+k==a.size)=true then pure (ForInStep.done (some (out++a.extract ia (ia+k)++a.extract (ia+k)++b.extract ib),out++a.extract ia (ia+k),ia+k,ib,mg,k,bc))
     else zq2 a b (out++a.extract ia (ia+k)) (ia+k) ib mg k bc
   else zq2 a b out ia ib mg k bc
 |_=>pure (ForInStep.done (some (out++a.extract ia++b.extract ib),out,ia,ib,mg,ac,bc))
def Lp(blt:Keyed->Keyed->Bool)(a b:Array Keyed)(N:Nat)(st:SortSt)(r:ForInStep Gs)(st2:SortSt):Prop:=∃g2,st2=zbb st g2/\((∃out2 ia2 ib2 mg2 ac2 bc2,(r=.done (none,out2,ia2,ib2,mg2,ac2,bc2)\/r=.yield (none,out2,ia2,ib2,mg2,ac2,bc2))/\At blt a b out2 ia2 ib2/\N<=out2.size)\/∃v q,r=.done (some v,q)/\kz blt a b v)
variable {out:Array Keyed}{ia ib mg k k1 ac bc N:Nat}
theorem zgb(C:Cmp prog w A E s kd U blt)(T:Two blt U a b){g:Nat}(m:Mg blt (a.toList++b.toList) out.toList (a.toList.drop ia) (b.toList.drop ib))(ha:ia+1<a.size)(hb:ib<b.size)(hx:le blt (ix a ia) (ix b ib))(hN:N<=out.size):wpS (model prog w) A E s (zq1 a b out ia ib mg k k1) (Lp blt a b N st) (zbb st g):=by
 unfold zq1;refine z5w (qf (by omega) ?_);have m2:=zte C T m (by omega) fun _=>hx;by_cases f1:ia+1+1=a.size
 · rw[z55 (by simpa using f1)];exact z53 ⟨g,rfl,.inr ⟨_,_,rfl,zcx T m2 f1⟩⟩
 · rw[z6c (by simpa using f1)];have at2:At blt a b (out.push (ix a ia)) (ia+1) ib:=⟨by omega,hb,m2⟩
   split
   · exact z53 ⟨g,rfl,.inl ⟨_,_,_,_,_,_,.inl rfl,at2,by rw[z6z];omega⟩⟩
   · exact z53 ⟨g,rfl,.inl ⟨_,_,_,_,_,_,.inr rfl,at2,by rw[z6z];omega⟩⟩
theorem zgc(C:Cmp prog w A E s kd U blt)(T:Two blt U a b)(hk:kindOf st=kd){g:Nat}(m:Mg blt (a.toList++b.toList) out.toList (a.toList.drop ia) (b.toList.drop ib))(ha:ia+1<a.size)(hb:ib<b.size)(hy:blt (ix b ib) (ix a ia)=true)(hN:N<=out.size):wpS (model prog w) A E s (zq2 a b out ia ib mg k bc) (Lp blt a b N st) (zbb st g):=by
 unfold zq2;refine z5w (qf hb ?_);have m2:=znl C T m hb fun _=>hy;by_cases f1:ib+1=b.size
 · rw[z55 (by simpa using f1)];exact z53 ⟨g,rfl,.inr ⟨_,_,rfl,zbu m2 (.inl f1)⟩⟩
 · rw[z6c (by simpa using f1)];refine z5w (qf (by omega) ?_);refine z5w (zjb (st:=zbb st g) (x:=ix a ia) (i:=ib+1) (n:=b.size-(ib+1)) (hint:=0) C hk (T.ua _ (ki (by omega))) T.ub T.sb (by omega) (by omega) fun k1 q1 q2 q3=>?_);dsimp only;by_cases f2:k1>0
   · rw[z55 f2];have m3:=zxx C T m2 (k:=k1) (by omega) q2;by_cases f3:ib+1+k1=b.size
     · rw[z55 (by simpa using f3)];exact z53 ⟨g,rfl,.inr ⟨_,_,rfl,zbu m3 (.inl f3)⟩⟩
     · rw[z6c (by simpa using f3)];exact zgb C T m3 ha (by omega) (q3 k1 (z5p _) (by omega)) (by rw[z93,z6z];omega)
   · rw[z6c f2];have:k1=0:=by omega
     subst this;exact zgb C T m2 ha (by omega) (q3 0 (z5p _) (by omega)) (by rw[z6z];omega)
theorem zja(C:Cmp prog w A E s kd U blt)(T:Two blt U a b)(hk:kindOf st=kd){g:Nat}(m:At blt a b out ia ib)(hN:N<=out.size):wpS (model prog w) A E s (z1r a b out ia ib mg ac bc) (Lp blt a b N st) (zbb st g):=by
 have p1:=m.ha;have p2:=m.hb;unfold z1r;refine z5w (ze1 ?_);refine z5w (qf p2 ?_);refine z5w (zjc (st:=zbb st mg) (i:=ia) (n:=a.size-ia) (hint:=0) C hk (T.ub _ (ki p2)) T.ua T.sa (by omega) (by omega) fun k q1 q2 q3=>?_);dsimp only;by_cases f2:k>0
 · rw[z55 f2];have m3:=zxy C T m.mg (k:=k) (by omega) q2;by_cases f3:ia+k+1=a.size
   · rw[z55 (by simpa using f3)];exact z53 ⟨mg,rfl,.inr ⟨_,_,rfl,zcx T m3 f3⟩⟩
   · rw[z6c (by simpa using f3)];by_cases f4:ia+k=a.size
     · rw[z55 (by simpa using f4)];exact z53 ⟨mg,rfl,.inr ⟨_,_,rfl,zbu m3 (.inr f4)⟩⟩
     · rw[z6c (by simpa using f4)];exact zgc (st:=st) C T hk m3 (by omega) p2 (q3 k (z5p _) (by omega)) (by rw[z93];omega)
 · rw[z6c f2];have:k=0:=by omega
   subst this;exact zgc (st:=st) C T hk m.mg p1 p2 (q3 0 (z5p _) (by omega)) hN
theorem zhw(C:Cmp prog w A E s kd U blt)(T:Two blt U a b)(hk:kindOf st=kd)(a0:0<a.size)(b0:0<b.size)(hf:blt (ix b 0) (ix a 0)=true){Q:Array Keyed->SortSt->Prop}
   (h:∀r g,kz blt a b r->Q r (zbb st g)):wpS (model prog w) A E s (zfg a b) Q st:=by
 rw[zik];dsimp only;refine z5w (zaf ?_);refine z5w (qf b0 ?_);have m0:Mg blt (a.toList++b.toList) (#[]:Array Keyed).toList (a.toList.drop 0) (b.toList.drop 0):=⟨ze6 T.sa,ze6 T.sb,z8y _⟩
 have m1:=znl C T m0 b0 fun _=>hf;have eg:st=zbb st (gallopOf st):=rfl;have h':∀r,kz blt a b r->Q r st:=fun r hr=>by have:=h r (gallopOf st) hr;rw[<-eg]at this;exact this
 by_cases e1:1=b.size
 · rw[z55 (by simpa using e1)];exact z53 (h' _ (zbu m1 (.inl e1)))
 · rw[z6c (by simpa using e1)];by_cases e2:0+1=a.size
   · rw[z55 (by simpa using e2)];exact z53 (h' _ (zcx T m1 e2))
   · rw[z6c (by simpa using e2)];refine z5w (qai ?_);refine z5w (z7f (z69
       (I:=fun x c st'=>∃g out ia ib mg,st'=zbb st g/\c=(none,out,ia,ib,mg)/\At blt a b out ia ib/\x+1<=out.size)
       (Q:=fun c st'=>∃g r,st'=zbb st g/\c.1=some r/\kz blt a b r) ?_ ?_ ⟨gallopOf st,#[ix b 0],0,1,gallopOf st,rfl,rfl,⟨by omega,by omega,m1⟩,z5p _⟩) ?_)
     · rintro x c st' _ hx ⟨g,out,ia,ib,mg,rfl,rfl,at0,sz⟩;dsimp only;refine z5w (z7f (z69
         (I:=fun x1 c1 st1=>∃out1 ia1 ib1 ac bc,st1=zbb st g/\c1=(none,out1,ia1,ib1,ac,bc)/\At blt a b out1 ia1 ib1/\out.size+x1<=out1.size)
         (Q:=fun c1 st1=>st1=zbb st g/\((∃out1 ia1 ib1 ac bc,c1=(none,out1,ia1,ib1,ac,bc)/\At blt a b out1 ia1 ib1/\out.size+1<=out1.size)\/∃r q,c1=(some r,q)/\kz blt a b r)) ?_ ?_ ⟨out,ia,ib,0,0,rfl,rfl,at0,z5p _⟩) ?_)
       · rintro x1 c1 st1 _ hx1 ⟨out1,ia1,ib1,ac,bc,rfl,rfl,at1,sz1⟩;have p1:=at1.ha;have p2:=at1.hb;dsimp only;refine z5w (qf p2 ?_);refine z5w (qf (by omega) ?_);refine z5w (C.lt _ _ (T.ub _ (ki p2)) (T.ua _ (ki (by omega))) _ _ hk ?_);dsimp only;cases hw:blt (ix b ib1) (ix a ia1)
         · simp only[z50,z61];refine z5w (qf (by omega) ?_);have m2:=zte C T at1.mg (by omega) fun _=>hw;by_cases f1:ia1+1+1=a.size
           · rw[z55 (by simpa using f1)];exact z53 ⟨rfl,.inr ⟨_,_,rfl,zcx T m2 f1⟩⟩
           · rw[z6c (by simpa using f1)];have at2:At blt a b (out1.push (ix a ia1)) (ia1+1) ib1:=⟨by omega,p2,m2⟩
             split
             · exact z53 ⟨rfl,.inl ⟨_,_,_,_,_,rfl,at2,by rw[z6z];omega⟩⟩
             · exact z53 ⟨_,_,_,_,_,rfl,rfl,at2,by rw[z6z];omega⟩
         · simp only[z7l];refine z5w (qf p2 ?_);have m2:=znl C T at1.mg p2 fun _=>hw;by_cases f1:ib1+1=b.size
           · rw[z55 (by simpa using f1)];exact z53 ⟨rfl,.inr ⟨_,_,rfl,zbu m2 (.inl f1)⟩⟩
           · rw[z6c (by simpa using f1)];have at2:At blt a b (out1.push (ix b ib1)) ia1 (ib1+1):=⟨p1,by omega,m2⟩
             split
             · exact z53 ⟨rfl,.inl ⟨_,_,_,_,_,rfl,at2,by rw[z6z];omega⟩⟩
             · exact z53 ⟨_,_,_,_,_,rfl,rfl,at2,by rw[z6z];omega⟩
       · rintro c1 st1 ⟨out1,ia1,ib1,ac,bc,rfl,rfl,at1,sz1⟩;exact⟨rfl,.inl ⟨_,_,_,_,_,rfl,at1,by omega⟩⟩
       · rintro c1 st1 ⟨rfl,⟨out1,ia1,ib1,ac,bc,rfl,at1,sz1⟩ | ⟨r,q,rfl,gr⟩⟩
         · dsimp only;refine z5w (zaf ?_);refine z5w (z7f (z69
             (I:=fun x2 c2 st2=>∃g2 out2 ia2 ib2 mg2 ac2 bc2,st2=zbb st g2/\c2=(none,out2,ia2,ib2,mg2,ac2,bc2)/\At blt a b out2 ia2 ib2/\out.size+1<=out2.size)
             (Q:=fun c2 st2=>∃g2,st2=zbb st g2/\((∃out2 ia2 ib2 mg2 ac2 bc2,c2=(none,out2,ia2,ib2,mg2,ac2,bc2)/\At blt a b out2 ia2 ib2/\out.size+1<=out2.size)\/∃r q,c2=(some r,q)/\kz blt a b r)) ?_ ?_ ⟨g,out1,ia1,ib1,mg+1,ac,bc,rfl,rfl,at1,sz1⟩) ?_)
           · rintro x2 c2 st2 _ hx2 ⟨g2,out2,ia2,ib2,mg2,ac2,bc2,rfl,rfl,at2,sz2⟩;dsimp only;show wpS _ _ _ _ (if mg2>1 then z1r a b out2 ia2 ib2 (mg2-1) ac2 bc2 else z1r a b out2 ia2 ib2 mg2 ac2 bc2) _ _;by_cases f0:mg2>1
             · rw[z55 f0];refine z7f (zja (st:=st) (N:=out.size+1) C T hk at2 sz2) fun r st2 hr=>?_;rcases hr with⟨g3,rfl,⟨o,i1,i2,mm,c1,c2,e | e,q1,q2⟩ | ⟨v,q,rfl,gv⟩⟩
               · subst e;exact⟨g3,rfl,.inl ⟨o,i1,i2,mm,c1,c2,rfl,q1,q2⟩⟩
               · subst e;exact⟨g3,o,i1,i2,mm,c1,c2,rfl,rfl,q1,q2⟩
               · exact⟨g3,rfl,.inr ⟨v,q,rfl,gv⟩⟩
             · rw[z6c f0];refine z7f (zja (st:=st) (N:=out.size+1) C T hk at2 sz2) fun r st2 hr=>?_;rcases hr with⟨g3,rfl,⟨o,i1,i2,mm,c1,c2,e | e,q1,q2⟩ | ⟨v,q,rfl,gv⟩⟩
               · subst e;exact⟨g3,rfl,.inl ⟨o,i1,i2,mm,c1,c2,rfl,q1,q2⟩⟩
               · subst e;exact⟨g3,o,i1,i2,mm,c1,c2,rfl,rfl,q1,q2⟩
               · exact⟨g3,rfl,.inr ⟨v,q,rfl,gv⟩⟩
           · rintro c2 st2 ⟨g2,out2,ia2,ib2,mg2,ac2,bc2,rfl,rfl,at2,sz2⟩;exact⟨g2,rfl,.inl ⟨_,_,_,_,_,_,rfl,at2,sz2⟩⟩
           · rintro c2 st2 ⟨g2,rfl,⟨out2,ia2,ib2,mg2,ac2,bc2,rfl,at2,sz2⟩ | ⟨r,q,rfl,gr⟩⟩
             · dsimp only;refine z5w (ze1 ?_);exact z53 ⟨mg2+1,out2,ia2,ib2,mg2+1,rfl,rfl,at2,by omega⟩
             · dsimp only;exact z53 ⟨g2,r,rfl,rfl,gr⟩
         · dsimp only;exact z53 ⟨g,r,rfl,rfl,gr⟩
     · rintro c st' ⟨g,out,ia,ib,mg,rfl,rfl,at0,sz⟩;have:=at0.le;omega
     · rintro c st' ⟨g,r,rfl,e,gr⟩;rw[e];exact z53 (h r g gr)
end
theorem zil(a b:Array Keyed):zfh a b=(do
 rule "list.sort.merge-hi"
 let total:=a.size+b.size
 let done (out:Array Keyed) (na nb:Nat):=a.extract 0 na++b.extract 0 nb++out.reverse
 let firstOfB (out:Array Keyed) (na nb:Nat):=b.extract 0 nb++a.extract 0 na++out.reverse
 let mut na:=a.size-1
 let mut nb:=b.size
 let mut out:Array Keyed:=#[<-elem' a na]
 if na==0 then return done out na nb
 if nb==1 then return firstOfB out na nb
 let mut minGallop:=gallopOf (<-get)
 for _ in [0:total] do
   let mut acount:=0
   let mut bcount:=0
   for _ in [0:total] do
     let some aWins <-lt' (<-elem' b (nb-1)) (<-elem' a (na-1)) | return done out na nb
     if aWins then
       na:=na-1;out:=out.push (<-elem' a na);acount:=acount+1;bcount:=0
       if na==0 then return done out na nb
       if acount ≥ minGallop then break
     else
       nb:=nb-1;out:=out.push (<-elem' b nb);bcount:=bcount+1;acount:=0
       if nb==1 then return firstOfB out na nb
       if bcount ≥ minGallop then break
   rule "list.sort.gallop"
   minGallop:=minGallop+1
   for _ in [0:total] do
     if minGallop>1 then minGallop:=minGallop-1
     smg minGallop
     let some at_ <-j7 false (<-elem' b (nb-1)) a 0 na (na-1) | return done out na nb
     let k:=na-at_
     acount:=k
     if k>0 then
       out:=out++(a.extract at_ na).reverse;na:=at_
       if na==0 then return done out na nb
     nb:=nb-1;out:=out.push (<-elem' b nb)
     if nb==1 then return firstOfB out na nb
     let some at_ <-j7 true (<-elem' a (na-1)) b 0 nb (nb-1) | return done out na nb
     let k:=nb-at_
     bcount:=k
     if k>0 then
       out:=out++(b.extract at_ nb).reverse;nb:=at_
       if nb==1 then return firstOfB out na nb
       if nb==0 then return done out na nb
     na:=na-1;out:=out.push (<-elem' a na)
     if na==0 then return done out na nb
     if acount<7&&bcount<7 then break
   minGallop:=minGallop+1
   smg minGallop
 unsupported "internal:list.sort.merge-bound"):=rfl
section
variable {blt:Keyed->Keyed->Bool}{T O A B C:List Keyed}
structure Mh (blt:Keyed->Keyed->Bool) (T O A B:List Keyed):Prop where
 pa:(A++O).Pairwise (le blt)
 pb:(B++O).Pairwise (le blt)
 pm:(A++(B++O)).Perm T
theorem Mh.chunkA(h:Mh blt T O (A++C) B)(hc:∀x∈C,∀z∈B,le blt z x):Mh blt T (C++O) A B:=by
 have h1:=z5r.mp h.pa;have h2:=z5r.mp h.pb;have h3:=z5r.mp h1.1;refine⟨by rw[<-z59];exact h.pa,?_,?_⟩
 · refine z5r.mpr ⟨h2.1,z5r.mpr ⟨h3.2.1,h1.2.1,fun x hx y hy=>h1.2.2 x (z57 _ hx) y hy⟩,fun z hz x hx=>?_⟩;rcases z6i.mp hx with hx | hx
   · exact hc x hx z hz
   · exact h2.2.2 z hz x hx
 · refine List.Perm.trans ?_ h.pm;rw[z59];refine z8e A ?_;rw[<-z59,<-z59];exact z78 O z84
theorem Mh.chunkB(h:Mh blt T O A (B++C))(hc:∀x∈C,∀z∈A,le blt z x):Mh blt T (C++O) A B:=by
 have h1:=z5r.mp h.pb;have h2:=z5r.mp h.pa;have h3:=z5r.mp h1.1;refine⟨?_,by rw[<-z59];exact h.pb,?_⟩
 · refine z5r.mpr ⟨h2.1,z5r.mpr ⟨h3.2.1,h1.2.1,fun x hx y hy=>h1.2.2 x (z57 _ hx) y hy⟩,fun z hz x hx=>?_⟩;rcases z6i.mp hx with hx | hx
   · exact hc x hx z hz
   · exact h2.2.2 z hz x hx
 · have:=h.pm;rw[z59]at this;exact this
theorem Mh.finA(h:Mh blt T O A []):zw9 blt T (A++O):=⟨h.pa,h.pm⟩
theorem Mh.finB(h:Mh blt T O [] B):zw9 blt T (B++O):=⟨h.pb,h.pm⟩
theorem Mh.firstB{x:Keyed}(h:Mh blt T O A [x])(hx:∀z∈A,le blt x z):zw9 blt T ([x]++(A++O)):=by
 have h1:=z5r.mp h.pb;refine⟨z5r.mpr ⟨z8t _ _,h.pa,fun y hy z hz=>?_⟩,List.Perm.trans ?_ h.pm⟩
 · rw[z6a.mp hy];rcases z6i.mp hz with hz | hz
   · exact hx z hz
   · exact h1.2.2 x (z6a.mpr rfl) z hz
 · rw[<-z59,<-z59];exact z78 O z84
theorem Mh.len(h:Mh blt T O A B):O.length+A.length+B.length=T.length:=by have:=h.pm.length_eq;simp only[z5n]at this;omega
variable {a b:Array Keyed}{i j k:Nat}
theorem zh3(h:i<a.size):a.toList.take (i+1)=a.toList.take i++[ix a i]:=by
 have e:a.toList[i]? = some (ix a i):=by rw[z65];exact zj7 h
 rw[List.take_add_one,e];rfl
theorem z10:(a.extract 0 i).toList=a.toList.take i:=by rw[z71,List.extract_eq_drop_take,Nat.sub_zero,z9g]
theorem zms(h:i<=j)(hj:j<=a.size):a.toList.take j=a.toList.take i++(a.extract i j).toList:=by
 rw[z71,List.extract_eq_drop_take];have:a.toList.take j=a.toList.take (i+(j-i)):=by rw[show i+(j-i)=j by omega]
 rw[this,List.take_add]
theorem zcs{x:Keyed}(h:x∈a.toList.take i):∃j,j<i/\j<a.size/\x=ix a j:=by obtain⟨j,hj,e⟩:=z6g h;rw[z6m,Array.length_toList]at hj;refine⟨j,by omega,by omega,?_⟩;rw[z75]at e;rw[<-e];unfold ix;rw[z6k (by omega)];simp
end
section
variable {prog:Program}{w:World}{A:Around}{E:zVP}{s:Shared}{blt:Keyed->Keyed->Bool}{U:Keyed->Prop}{kd:SortKind}{st:SortSt}{a b:Array Keyed}
structure Ah (blt:Keyed->Keyed->Bool) (a b out:Array Keyed) (na nb:Nat):Prop where
 a0:0<na
 ha:na<=a.size
 b0:1<nb
 hb:nb<=b.size
 mg:Mh blt (a.toList++b.toList) out.toList.reverse (a.toList.take na) (b.toList.take nb)
structure TwoH (blt:Keyed->Keyed->Bool) (U:Keyed->Prop) (a b:Array Keyed):Prop where
 sa:zqe blt a
 sb:zqe blt b
 ua:∀x∈a.toList,U x
 ub:∀x∈b.toList,U x
 fb:∀z∈a.toList,le blt (ix b 0) z
variable {out:Array Keyed}{na nb k:Nat}
theorem Ah.le(h:Ah blt a b out na nb):out.size+3<=a.size+b.size:=by have:=h.mg.len;simp only[z6m,z5n,List.length_reverse,Array.length_toList]at this;have:=h.a0;have:=h.ha;have:=h.b0;have:=h.hb;omega
theorem zz3(m:Mh blt (a.toList++b.toList) out.toList.reverse (a.toList.take na) (b.toList.take nb))(hb:nb=0\/na=0):kz blt a b (a.extract 0 na++b.extract 0 nb++out.reverse):=by
 unfold kz;rw[z6t,z6t,z10,z10,z9f];rcases hb with rfl | rfl
 · rw[List.take_zero]at m ⊢;rw[z6e];exact m.finA
 · rw[List.take_zero]at m ⊢;rw[List.nil_append];exact m.finB
theorem z1z(T:TwoH blt U a b)(b0:0<b.size)(m:Mh blt (a.toList++b.toList) out.toList.reverse (a.toList.take na) (b.toList.take nb))(hb:nb=1):kz blt a b (b.extract 0 nb++a.extract 0 na++out.reverse):=by
 subst hb;unfold kz;rw[z6t,z6t,z10,z10,z9f,z59];have e:b.toList.take 1=[ix b 0]:=by have:=zh3 b0;rw[List.take_zero]at this;exact this
 rw[e]at m ⊢;exact m.firstB fun z hz=>T.fb z (z6x hz)
theorem zig(C:Cmp prog w A E s kd U blt)(T:TwoH blt U a b)(m:Mh blt (a.toList++b.toList) out.toList.reverse (a.toList.take (na+1)) (b.toList.take nb))(ha:na<a.size)(hb:nb<=b.size)(h:0<nb->blt (ix b (nb-1)) (ix a na)=true):Mh blt (a.toList++b.toList) (out.push (ix a na)).toList.reverse (a.toList.take na) (b.toList.take nb):=by rw[zh3 ha]at m;rw[z9b,z9i];refine Mh.chunkA (C:=[ix a na]) m fun x hx z hz=>?_;rw[z6a.mp hx];obtain⟨j,j1,j2,rfl⟩:=zcs hz;exact C.tr _ _ _ (T.sb j (nb-1) (by omega) (by omega)) (C.asy _ _ (h (by omega)))
theorem znm(C:Cmp prog w A E s kd U blt)(T:TwoH blt U a b)(m:Mh blt (a.toList++b.toList) out.toList.reverse (a.toList.take na) (b.toList.take (nb+1)))(hb:nb<b.size)(ha:na<=a.size)(h:0<na->le blt (ix a (na-1)) (ix b nb)):Mh blt (a.toList++b.toList) (out.push (ix b nb)).toList.reverse (a.toList.take na) (b.toList.take nb):=by rw[zh3 hb]at m;rw[z9b,z9i];refine Mh.chunkB (C:=[ix b nb]) m fun x hx z hz=>?_;rw[z6a.mp hx];obtain⟨j,j1,j2,rfl⟩:=zcs hz;exact C.tr _ _ _ (T.sa j (na-1) (by omega) (by omega)) (h (by omega))
theorem zun(C:Cmp prog w A E s kd U blt)(T:TwoH blt U a b)(m:Mh blt (a.toList++b.toList) out.toList.reverse (a.toList.take na) (b.toList.take nb))(hk:k<=na)(ha:na<=a.size)(hb:nb<=b.size)(h:∀j,k<=j->j<na->blt (ix b (nb-1)) (ix a j)=true):Mh blt (a.toList++b.toList) (out++(a.extract k na).reverse).toList.reverse (a.toList.take k) (b.toList.take nb):=by
 rw[zms hk ha]at m;rw[z6t,z9i,z9f,qac];refine Mh.chunkA m fun x hx z hz=>?_;have hx':x∈(a.extract k (k+(na-k))).toList:=by rw[show k+(na-k)=na by omega];exact hx
 obtain⟨j,j1,j2,rfl⟩:=zj3 hx';obtain⟨l,l1,l2,rfl⟩:=zcs hz;exact C.tr _ _ _ (T.sb l (nb-1) (by omega) (by omega)) (C.asy _ _ (h (k+j) (by omega) (by omega)))
theorem zum(C:Cmp prog w A E s kd U blt)(T:TwoH blt U a b)(m:Mh blt (a.toList++b.toList) out.toList.reverse (a.toList.take na) (b.toList.take nb))(hk:k<=nb)(ha:na<=a.size)(hb:nb<=b.size)(h:∀j,k<=j->j<nb->le blt (ix a (na-1)) (ix b j)):Mh blt (a.toList++b.toList) (out++(b.extract k nb).reverse).toList.reverse (a.toList.take na) (b.toList.take k):=by
 rw[zms hk hb]at m;rw[z6t,z9i,z9f,qac];refine Mh.chunkB m fun x hx z hz=>?_;have hx':x∈(b.extract k (k+(nb-k))).toList:=by rw[show k+(nb-k)=nb by omega];exact hx
 obtain⟨j,j1,j2,rfl⟩:=zj3 hx';obtain⟨l,l1,l2,rfl⟩:=zcs hz;exact C.tr _ _ _ (T.sa l (na-1) (by omega) (by omega)) (h (k+j) (by omega) (by omega))
end
section
variable {prog:Program}{w:World}{A:Around}{E:zVP}{s:Shared}{blt:Keyed->Keyed->Bool}{U:Keyed->Prop}{kd:SortKind}{st:SortSt}{a b:Array Keyed}
abbrev Hs:=Option (Array Keyed)×Nat×Nat×Array Keyed×Nat×Nat×Nat
def zjn(a b out:Array Keyed)(na nb mg k k1:Nat):StateT SortSt Sem (ForInStep Hs):=do
 let x <-elem' a (na-1)
 if(na-1==0)=true then pure (ForInStep.done (some (a.extract 0 (na-1)++b.extract 0 nb++(out.push x).reverse),na-1,nb,out.push x,mg,k,k1))
 else if(decide (k<7)&&decide (k1<7))=true then pure (ForInStep.done (none,na-1,nb,out.push x,mg,k,k1))else pure (ForInStep.yield (none,na-1,nb,out.push x,mg,k,k1))
def zjo(a b out:Array Keyed)(na nb mg k bc:Nat):StateT SortSt Sem (ForInStep Hs):=do
 let y <-elem' b (nb-1)
 if(nb-1==1)=true then pure (ForInStep.done (some (b.extract 0 (nb-1)++a.extract 0 na++(out.push y).reverse),na,nb-1,out.push y,mg,k,bc))
 else do
   let x <-elem' a (na-1)
   let r <-j7 true x b 0 (nb-1) (nb-1-1)
   match r with
   | some t=>
     if nb-1-t>0 then
       if(t==1)=true then pure (ForInStep.done (some (b.extract 0 t++a.extract 0 na++(out.push y++(b.extract t (nb-1)).reverse).reverse),na,t,out.push y++(b.extract t (nb-1)).reverse,mg,k,nb-1-t))
       else if(t==0)=true then pure (ForInStep.done (some (a.extract 0 na++b.extract 0 t++(out.push y++(b.extract t (nb-1)).reverse).reverse),na,t,out.push y++(b.extract t (nb-1)).reverse,mg,k,nb-1-t))
       else zjn a b (out.push y++(b.extract t (nb-1)).reverse) na t mg k (nb-1-t)
     else zjn a b (out.push y) na (nb-1) mg k (nb-1-t)
   |_=>pure (ForInStep.done (some (a.extract 0 na++b.extract 0 (nb-1)++(out.push y).reverse),na,nb-1,out.push y,mg,k,bc))
def zrl(a b out:Array Keyed)(na nb mg ac bc:Nat):StateT SortSt Sem (ForInStep Hs):=do
 smg mg
 let y <-elem' b (nb-1)
 let r <-j7 false y a 0 na (na-1)
 match r with
 | some t=>
   if na-t>0 then
     if(t==0)=true then pure (ForInStep.done (some (a.extract 0 t++b.extract 0 nb++(out++(a.extract t na).reverse).reverse),t,nb,out++(a.extract t na).reverse,mg,na-t,bc))
     else zjo a b (out++(a.extract t na).reverse) t nb mg (na-t) bc
   else zjo a b out na nb mg (na-t) bc
 |_=>pure (ForInStep.done (some (a.extract 0 na++b.extract 0 nb++out.reverse),na,nb,out,mg,ac,bc))
def LpH(blt:Keyed->Keyed->Bool)(a b:Array Keyed)(N:Nat)(st:SortSt)(r:ForInStep Hs)(st2:SortSt):Prop:=∃g2,st2=zbb st g2/\((∃out2 na2 nb2 mg2 ac2 bc2,(r=.done (none,na2,nb2,out2,mg2,ac2,bc2)\/r=.yield (none,na2,nb2,out2,mg2,ac2,bc2))/\Ah blt a b out2 na2 nb2/\N<=out2.size)\/∃v q,r=.done (some v,q)/\kz blt a b v)
variable {out:Array Keyed}{na nb mg k k1 ac bc N:Nat}
theorem zef(C:Cmp prog w A E s kd U blt)(T:TwoH blt U a b){g:Nat}(m:Mh blt (a.toList++b.toList) out.toList.reverse (a.toList.take na) (b.toList.take nb))(a0:0<na)(ha:na<=a.size)(b0:1<nb)(hb:nb<=b.size)(hx:blt (ix b (nb-1)) (ix a (na-1))=true)(hN:N<=out.size):wpS (model prog w) A E s (zjn a b out na nb mg k k1) (LpH blt a b N st) (zbb st g):=by
 obtain⟨n1,rfl⟩:∃n1,na=n1+1:=⟨na-1,by omega⟩
 unfold zjn;refine z5w (qf (by omega) ?_);have m2:=zig C T m (by omega) hb fun _=>hx;simp only[z81]at *;by_cases f1:n1=0
 · rw[z55 (by simpa using f1)];exact z53 ⟨g,rfl,.inr ⟨_,_,rfl,zz3 m2 (.inr f1)⟩⟩
 · rw[z6c (by simpa using f1)];have at2:Ah blt a b (out.push (ix a n1)) n1 nb:=⟨by omega,by omega,b0,hb,m2⟩
   split
   · exact z53 ⟨g,rfl,.inl ⟨_,_,_,_,_,_,.inl rfl,at2,by rw[z6z];omega⟩⟩
   · exact z53 ⟨g,rfl,.inl ⟨_,_,_,_,_,_,.inr rfl,at2,by rw[z6z];omega⟩⟩
theorem zeg(C:Cmp prog w A E s kd U blt)(T:TwoH blt U a b)(hk:kindOf st=kd){g:Nat}(m:Mh blt (a.toList++b.toList) out.toList.reverse (a.toList.take na) (b.toList.take nb))(a0:0<na)(ha:na<=a.size)(b0:1<nb)(hb:nb<=b.size)(hy:le blt (ix a (na-1)) (ix b (nb-1)))(hN:N<=out.size):wpS (model prog w) A E s (zjo a b out na nb mg k bc) (LpH blt a b N st) (zbb st g):=by
 obtain⟨n1,rfl⟩:∃n1,nb=n1+1:=⟨nb-1,by omega⟩
 unfold zjo;refine z5w (qf (by omega) ?_);have m2:=znm C T m (by omega) ha fun _=>hy;simp only[z81]at *;by_cases f1:n1=1
 · rw[z55 (by simpa using f1)];exact z53 ⟨g,rfl,.inr ⟨_,_,rfl,z1z T (by omega) m2 f1⟩⟩
 · rw[z6c (by simpa using f1)];refine z5w (qf (by omega) ?_);refine z5w (zjb (st:=zbb st g) (x:=ix a (na-1)) (i:=0) (n:=n1) (hint:=n1-1) C hk (T.ua _ (ki (by omega))) T.ub T.sb (by omega) (by omega) fun t q1 q2 q3=>?_);simp only[z97]at q2 q3;dsimp only;by_cases f2:n1-t>0
   · rw[z55 f2];have m3:=zum C T m2 (k:=t) q1 ha (by omega) q3;by_cases f3:t=1
     · rw[z55 (by simpa using f3)];exact z53 ⟨g,rfl,.inr ⟨_,_,rfl,z1z T (by omega) m3 f3⟩⟩
     · rw[z6c (by simpa using f3)];by_cases f4:t=0
       · rw[z55 (by simpa using f4)];exact z53 ⟨g,rfl,.inr ⟨_,_,rfl,zz3 m3 (.inl f4)⟩⟩
       · rw[z6c (by simpa using f4)];exact zef C T m3 a0 ha (by omega) (by omega) (q2 (t-1) (by omega)) (by rw[z93,z6z];omega)
   · rw[z6c f2];exact zef C T m2 a0 ha (by omega) (by omega) (q2 (n1-1) (by omega)) (by rw[z6z];omega)
theorem zgd(C:Cmp prog w A E s kd U blt)(T:TwoH blt U a b)(hk:kindOf st=kd){g:Nat}(m:Ah blt a b out na nb)(hN:N<=out.size):wpS (model prog w) A E s (zrl a b out na nb mg ac bc) (LpH blt a b N st) (zbb st g):=by
 have p1:=m.ha;have p2:=m.hb;have p3:=m.a0;have p4:=m.b0;unfold zrl;refine z5w (ze1 ?_);refine z5w (qf (by omega) ?_);refine z5w (zjc (st:=zbb st mg) (y:=ix b (nb-1)) (i:=0) (n:=na) (hint:=na-1) C hk (T.ub _ (ki (by omega))) T.ua T.sa (by omega) (by omega) fun t q1 q2 q3=>?_);simp only[z97]at q2 q3;dsimp only;by_cases f2:na-t>0
 · rw[z55 f2];have m3:=zun C T m.mg (k:=t) q1 p1 p2 q3;by_cases f3:t=0
   · rw[z55 (by simpa using f3)];exact z53 ⟨mg,rfl,.inr ⟨_,_,rfl,zz3 m3 (.inr f3)⟩⟩
   · rw[z6c (by simpa using f3)];exact zeg (st:=st) C T hk m3 (by omega) (by omega) p4 p2 (q2 (t-1) (by omega)) (by rw[z93];omega)
 · rw[z6c f2];exact zeg (st:=st) C T hk m.mg p3 p1 p4 p2 (q2 (na-1) (by omega)) hN
theorem zhx(C:Cmp prog w A E s kd U blt)(T:TwoH blt U a b)(hk:kindOf st=kd)(a0:0<a.size)(b0:0<b.size)(hl:blt (ix b (b.size-1)) (ix a (a.size-1))=true){Q:Array Keyed->SortSt->Prop}
   (h:∀r g,kz blt a b r->Q r (zbb st g)):wpS (model prog w) A E s (zfh a b) Q st:=by
 rw[zil];dsimp only;refine z5w (zaf ?_);refine z5w (qf (by omega) ?_);have m0:Mh blt (a.toList++b.toList) (#[]:Array Keyed).toList.reverse (a.toList.take (a.size-1+1)) (b.toList.take b.size):=by rw[show a.size-1+1=a.size by omega,z7d (by simp),z7d (by simp)];exact⟨by simpa using ze6 T.sa,by simpa using ze6 T.sb,by simp⟩
 have m1:=zig C T m0 (by omega) (z5p _) fun _=>hl;have eg:st=zbb st (gallopOf st):=rfl;have h':∀r,kz blt a b r->Q r st:=fun r hr=>by have:=h r (gallopOf st) hr;rw[<-eg]at this;exact this
 by_cases e1:a.size-1=0
 · rw[z55 (by simpa using e1)];exact z53 (h' _ (zz3 m1 (.inr e1)))
 · rw[z6c (by simpa using e1)];by_cases e2:b.size=1
   · rw[z55 (by simpa using e2)];exact z53 (h' _ (z1z T b0 m1 e2))
   · rw[z6c (by simpa using e2)];refine z5w (qai ?_);refine z5w (z7f (z69
       (I:=fun x c st'=>∃g out na nb mg,st'=zbb st g/\c=(none,na,nb,out,mg)/\Ah blt a b out na nb/\x+1<=out.size)
       (Q:=fun c st'=>∃g r,st'=zbb st g/\c.1=some r/\kz blt a b r) ?_ ?_ ⟨gallopOf st,#[ix a (a.size-1)],a.size-1,b.size,gallopOf st,rfl,rfl,⟨by omega,by omega,by omega,z5p _,m1⟩,z5p _⟩) ?_)
     · rintro x c st' _ hx ⟨g,out,na,nb,mg,rfl,rfl,at0,sz⟩;dsimp only;refine z5w (z7f (z69
         (I:=fun x1 c1 st1=>∃out1 na1 nb1 ac bc,st1=zbb st g/\c1=(none,na1,nb1,out1,ac,bc)/\Ah blt a b out1 na1 nb1/\out.size+x1<=out1.size)
         (Q:=fun c1 st1=>st1=zbb st g/\((∃out1 na1 nb1 ac bc,c1=(none,na1,nb1,out1,ac,bc)/\Ah blt a b out1 na1 nb1/\out.size+1<=out1.size)\/∃r q,c1=(some r,q)/\kz blt a b r)) ?_ ?_ ⟨out,na,nb,0,0,rfl,rfl,at0,z5p _⟩) ?_)
       · rintro x1 c1 st1 _ hx1 ⟨out1,na1,nb1,ac,bc,rfl,rfl,at1,sz1⟩;have p1:=at1.ha;have p2:=at1.hb;have p3:=at1.a0;have p4:=at1.b0;have mm:=at1.mg;obtain⟨n1,rfl⟩:∃n1,na1=n1+1:=⟨na1-1,by omega⟩
         obtain⟨n2,rfl⟩:∃n2,nb1=n2+1:=⟨nb1-1,by omega⟩
         simp only[z81];refine z5w (qf (by omega) ?_);refine z5w (qf (by omega) ?_);refine z5w (C.lt _ _ (T.ub _ (ki (by omega))) (T.ua _ (ki (by omega))) _ _ hk ?_);dsimp only;cases hw:blt (ix b n2) (ix a n1)
         · simp only[z50,z61];refine z5w (qf (by omega) ?_);have m2:=znm C T mm (by omega) p1 fun _=>by rw[z81];exact hw
           by_cases f1:n2=1
           · rw[z55 (by simpa using f1)];exact z53 ⟨rfl,.inr ⟨_,_,rfl,z1z T (by omega) m2 f1⟩⟩
           · rw[z6c (by simpa using f1)];have at2:Ah blt a b (out1.push (ix b n2)) (n1+1) n2:=⟨by omega,p1,by omega,by omega,m2⟩
             split
             · exact z53 ⟨rfl,.inl ⟨_,_,_,_,_,rfl,at2,by rw[z6z];omega⟩⟩
             · exact z53 ⟨_,_,_,_,_,rfl,rfl,at2,by rw[z6z];omega⟩
         · simp only[z7l];refine z5w (qf (by omega) ?_);have m2:=zig C T mm (by omega) p2 fun _=>by rw[z81];exact hw
           by_cases f1:n1=0
           · rw[z55 (by simpa using f1)];exact z53 ⟨rfl,.inr ⟨_,_,rfl,zz3 m2 (.inr f1)⟩⟩
           · rw[z6c (by simpa using f1)];have at2:Ah blt a b (out1.push (ix a n1)) n1 (n2+1):=⟨by omega,by omega,by omega,p2,m2⟩
             split
             · exact z53 ⟨rfl,.inl ⟨_,_,_,_,_,rfl,at2,by rw[z6z];omega⟩⟩
             · exact z53 ⟨_,_,_,_,_,rfl,rfl,at2,by rw[z6z];omega⟩
       · rintro c1 st1 ⟨out1,na1,nb1,ac,bc,rfl,rfl,at1,sz1⟩;exact⟨rfl,.inl ⟨_,_,_,_,_,rfl,at1,by omega⟩⟩
       · rintro c1 st1 ⟨rfl,⟨out1,na1,nb1,ac,bc,rfl,at1,sz1⟩ | ⟨r,q,rfl,gr⟩⟩
         · dsimp only;refine z5w (zaf ?_);refine z5w (z7f (z69
             (I:=fun x2 c2 st2=>∃g2 out2 na2 nb2 mg2 ac2 bc2,st2=zbb st g2/\c2=(none,na2,nb2,out2,mg2,ac2,bc2)/\Ah blt a b out2 na2 nb2/\out.size+1<=out2.size)
             (Q:=fun c2 st2=>∃g2,st2=zbb st g2/\((∃out2 na2 nb2 mg2 ac2 bc2,c2=(none,na2,nb2,out2,mg2,ac2,bc2)/\Ah blt a b out2 na2 nb2/\out.size+1<=out2.size)\/∃r q,c2=(some r,q)/\kz blt a b r)) ?_ ?_ ⟨g,out1,na1,nb1,mg+1,ac,bc,rfl,rfl,at1,sz1⟩) ?_)
           · rintro x2 c2 st2 _ hx2 ⟨g2,out2,na2,nb2,mg2,ac2,bc2,rfl,rfl,at2,sz2⟩;dsimp only;show wpS _ _ _ _ (if mg2>1 then zrl a b out2 na2 nb2 (mg2-1) ac2 bc2 else zrl a b out2 na2 nb2 mg2 ac2 bc2) _ _;by_cases f0:mg2>1
             · rw[z55 f0];refine z7f (zgd (st:=st) (N:=out.size+1) C T hk at2 sz2) fun r st2 hr=>?_;rcases hr with⟨g3,rfl,⟨o,i1,i2,mm,c1,c2,e | e,q1,q2⟩ | ⟨v,q,rfl,gv⟩⟩
               · subst e;exact⟨g3,rfl,.inl ⟨o,i1,i2,mm,c1,c2,rfl,q1,q2⟩⟩
               · subst e;exact⟨g3,o,i1,i2,mm,c1,c2,rfl,rfl,q1,q2⟩
               · exact⟨g3,rfl,.inr ⟨v,q,rfl,gv⟩⟩
             · rw[z6c f0];refine z7f (zgd (st:=st) (N:=out.size+1) C T hk at2 sz2) fun r st2 hr=>?_;rcases hr with⟨g3,rfl,⟨o,i1,i2,mm,c1,c2,e | e,q1,q2⟩ | ⟨v,q,rfl,gv⟩⟩
               · subst e;exact⟨g3,rfl,.inl ⟨o,i1,i2,mm,c1,c2,rfl,q1,q2⟩⟩
               · subst e;exact⟨g3,o,i1,i2,mm,c1,c2,rfl,rfl,q1,q2⟩
               · exact⟨g3,rfl,.inr ⟨v,q,rfl,gv⟩⟩
           · rintro c2 st2 ⟨g2,out2,na2,nb2,mg2,ac2,bc2,rfl,rfl,at2,sz2⟩;exact⟨g2,rfl,.inl ⟨_,_,_,_,_,_,rfl,at2,sz2⟩⟩
           · rintro c2 st2 ⟨g2,rfl,⟨out2,na2,nb2,mg2,ac2,bc2,rfl,at2,sz2⟩ | ⟨r,q,rfl,gr⟩⟩
             · dsimp only;refine z5w (ze1 ?_);exact z53 ⟨mg2+1,out2,na2,nb2,mg2+1,rfl,rfl,at2,by omega⟩
             · dsimp only;exact z53 ⟨g2,r,rfl,rfl,gr⟩
         · dsimp only;exact z53 ⟨g,r,rfl,rfl,gr⟩
     · rintro c st' ⟨g,out,na,nb,mg,rfl,rfl,at0,sz⟩;have:=at0.le;omega
     · rintro c st' ⟨g,r,rfl,e,gr⟩;rw[e];exact z53 (h r g gr)
end
theorem zim(i:Nat):mergeAt' i=(do
 let s <-get
 let(some (sa,na,power),some (sb,nb,_)):=((pendingOf s)[i]?,(pendingOf s)[i+1]?) | unsupported "internal:list.sort.pending"
 set (SortSt.mk' (kindOf s) (arrOf s) (((pendingOf s).setIfInBounds i (sa,na+nb,power)).eraseIdxIfInBounds (i+1)) (gallopOf s) (failedOf s))
 let some k <-j7 false (<-elem' (arrOf s) sb) (arrOf s) sa na 0 | return false
 let(sa,na):=(sa+k,na-k)
 if na==0 then return true
 let some nb <-j7 true (<-elem' (arrOf s) (sa+na-1)) (arrOf s) sb nb (nb-1) | return false
 if nb==0 then return true
 let x:=(arrOf s).extract sa sb
 let y:=(arrOf s).extract sb (sb+nb)
 let merged <-if na<=nb then zfg x y else zfh x y
 modify fun s=>setArr s (merged.toList.zipIdx.foldl (fun a (p,j)=>a.setIfInBounds (sa+j) p) (arrOf s))
 return(failedOf (<-get)).isNone):=rfl
theorem zjt(base:Nat):∀(l:List Keyed) (j:Nat) (arr:Array Keyed),base+j+l.length<=arr.size->((l.zipIdx j).foldl (fun a (p:Keyed×Nat)=>a.setIfInBounds (base+p.2) p.1) arr).toList=arr.toList.take (base+j)++(l++arr.toList.drop (base+j+l.length))
 | [],j,arr,_=>by simp
 | p::l,j,arr,h=>by
   rw[List.length_cons]at h;rw[List.zipIdx_cons,List.foldl_cons,zjt base l (j+1) _ (by rw[qa5];omega)];rw[qan];have hl:base+j<arr.toList.length:=by rw[Array.length_toList];omega
   rw[show base+(j+1)=base+j+1 by omega,List.take_add_one,z6r hl,List.take_set_of_le (z5p _),List.drop_set_of_lt (by omega)];simp only[Option.toList_some,z59,List.singleton_append,List.length_cons];rw[show base+j+1+l.length=base+j+(l.length+1) by omega];rfl
section
variable {blt:Keyed->Keyed->Bool}{pre X Y post:List Keyed}{arr:Array Keyed}{j:Nat}
theorem ix_list(h:arr.toList=pre++(X++post))(hj:j<X.length):ix arr (pre.length+j)=X[j]:=by unfold ix;rw[<-z65,h,z51 (by omega),z7n,z6n hj,z5v hj];rfl
theorem zpd{l:Nat}(h:arr.toList=pre++(X++post))(hj:j<=l)(hl:l<=X.length):(arr.extract (pre.length+j) (pre.length+l)).toList=(X.drop j).take (l-j):=by rw[z71,List.extract_eq_drop_take,h,<-z94,qaz,show pre.length+l-(pre.length+j)=l-j by omega,z8v (by omega),z8w (by rw[z6l];omega)]
theorem zni{a:Array Keyed}(irr:∀x,blt x x=false)(h:a.toList.Pairwise (le blt)):zqe blt a:=by
 intro i j hij hj;rcases z7r i j with q | q
 · rw[z7e]at h;have e:∀{i} (h:i<a.toList.length),a.toList[i]=ix a i:=fun {i} h=>by rw[Array.length_toList]at h;unfold ix;rw[z6k h];simp
   have:=h i j (by rw[Array.length_toList];omega) (by rw[Array.length_toList];omega) q;rw[e,e]at this;exact this
 · rw[show i=j by omega];exact irr _
end
section
variable {prog:Program}{w:World}{A:Around}{E:zVP}{s:Shared}{blt:Keyed->Keyed->Bool}{U:Keyed->Prop}{kd:SortKind}{st:SortSt}{a b:Array Keyed}{pre X Y post:List Keyed}
theorem Cmp.irr(C:Cmp prog w A E s kd U blt)(x:Keyed):blt x x=false:=by
 cases q:blt x x
 · rfl
 · have:=C.asy _ _ q;rw[q]at this;exact this
theorem zme(C:Cmp prog w A E s kd U blt)(hk:kindOf st=kd){y:Keyed}{i n hint:Nat}(uy:U y)(ua:∀x∈a.toList,U x)(sa:∀j l,j<=l->l<n->le blt (ix a (i+j)) (ix a (i+l)))(hn:i+n<=a.size)(hh:hint<n){Q:Option Nat->SortSt->Prop}
   (h:∀k,k<=n->(∀j,j<k->le blt (ix a (i+j)) y)->(∀j,k<=j->j<n->blt y (ix a (i+j))=true)->Q (some k) st):wpS (model prog w) A E s (j7 false y a i n hint) Q st:=by
 rw[zan];refine yg (P:=fun j=>!(blt y (ix a (i+j)))) (fun j hj Q hq=>?_) (fun j l hjl hl hp=>?_) hh fun k k1 k2 k3=>h k k1 (fun j hj=>by have:=k2 j hj;unfold le;simpa using this) (fun j h1 h2=>by have:=k3 j h1 h2;simpa using this)
 · unfold byd;refine z5w (qf (by omega) ?_);simp only[z50,z61];exact z5w (C.lt _ _ uy (ua _ (ki (by omega))) _ _ hk (z53 hq))
 · have e:blt y (ix a (i+l))=false:=by simpa using hp
   have:=C.tr _ _ _ (sa j l hjl hl) e;simp[this]
theorem zmd(C:Cmp prog w A E s kd U blt)(hk:kindOf st=kd){x:Keyed}{i n hint:Nat}(ux:U x)(ub:∀x∈b.toList,U x)(sb:∀j l,j<=l->l<n->le blt (ix b (i+j)) (ix b (i+l)))(hn:i+n<=b.size)(hh:hint<n){Q:Option Nat->SortSt->Prop}
   (h:∀k,k<=n->(∀j,j<k->blt (ix b (i+j)) x=true)->(∀j,k<=j->j<n->le blt x (ix b (i+j)))->Q (some k) st):wpS (model prog w) A E s (j7 true x b i n hint) Q st:=by
 rw[zan];refine yg (P:=fun j=>blt (ix b (i+j)) x) (fun j hj Q hq=>?_) (fun j l hjl hl hp=>?_) hh h
 · unfold byd;refine z5w (qf (by omega) ?_);simp only[z7l];exact C.lt _ _ (ub _ (ki (by omega))) ux _ _ hk hq
 · cases q:blt (ix b (i+j)) x
   · have:=C.tr x (ix b (i+j)) (ix b (i+l)) q (sb j l hjl hl);rw[this]at hp;cases hp
   · rfl
theorem zyk(irr:∀x,blt x x=false)(sx:X.Pairwise (le blt)){j l:Nat}(hl:l<X.length)(hj:j<=l):le blt (X[j]'(z70 hj hl)) X[l]:=by
 rcases z7r j l with q | q
 · exact(z7e.mp sx) j l _ hl q
 · cases z8p hj q;exact irr _
theorem zhy(C:Cmp prog w A E s kd U blt){i:Nat}{P:Array (Nat×Nat×Nat)}{p1 p2:Nat}(hk:kindOf st=kd)(hfl:failedOf st=none)(hp:pendingOf st=P)(h1:P[i]? = some (pre.length,X.length,p1))(h2:P[i+1]? = some (pre.length+X.length,Y.length,p2))
   (ha:(arrOf st).toList=pre++(X++(Y++post))) (ua:∀x∈(arrOf st).toList,U x) (sx:X.Pairwise (le blt)) (sy:Y.Pairwise (le blt)) (x0:0<X.length) (y0:0<Y.length) {Q:Bool->SortSt->Prop}
   (h:∀(Z:List Keyed) (a':Array Keyed) (g:Nat),a'.toList=pre++(Z++post)->Z.Pairwise (le blt)->Z.Perm (X++Y)->Q true (SortSt.mk' kd a' ((P.setIfInBounds i (pre.length,X.length+Y.length,p1)).eraseIdxIfInBounds (i+1)) g none)):wpS (model prog w) A E s (mergeAt' i) Q st:=by
 have irr:=C.irr;have haX:(arrOf st).toList=pre++(X++(Y++post)):=ha;have haY:(arrOf st).toList=(pre++X)++(Y++post):=by rw[z59];exact ha
 have lpx:(pre++X).length=pre.length+X.length:=z5n;have asz:(arrOf st).size=pre.length+(X.length+(Y.length+post.length)):=by rw[<-Array.length_toList,ha];simp only[z5n]
 have ixX:∀{j},(hj:j<X.length)->ix (arrOf st) (pre.length+j)=X[j]:=fun {j} hj=>ix_list haX hj;have ixY:∀{j},(hj:j<Y.length)->ix (arrOf st) (pre.length+X.length+j)=Y[j]:=fun {j} hj=>by rw[<-lpx];exact ix_list haY hj
 have pX:∀{j l} (hl:l<X.length) (hj:j<=l),le blt (X[j]'(z70 hj hl)) X[l]:=fun hl hj=>zyk irr sx hl hj;have pY:∀{j l} (hl:l<Y.length) (hj:j<=l),le blt (Y[j]'(z70 hj hl)) Y[l]:=fun hl hj=>zyk irr sy hl hj;have uX:∀x∈X,U x:=fun x hx=>ua x (by rw[ha];simp[hx]);have uY:∀x∈Y,U x:=fun x hx=>ua x (by rw[ha];simp[hx]);rw[zim];refine z5w (qai ?_);rw[hp,h1,h2];dsimp only;refine z5w (z8x (f:=fun _=>_) ?_);refine z5w (qf (by omega) ?_);have e0:=ixY (j:=0) y0;rw[Nat.add_zero]at e0;rw[e0];refine z5w (zme (a:=arrOf st) (st:=SortSt.mk' (kindOf st) (arrOf st) ((P.setIfInBounds i (pre.length,X.length+Y.length,p1)).eraseIdxIfInBounds (i+1)) (gallopOf st) (failedOf st)) (y:=Y[0]) (i:=pre.length) (n:=X.length) (hint:=0) C hk (uY _ (z8b _)) ua (fun j l hj hl=>by rw[ixX (z70 hj hl),ixX hl];exact pX hl hj) (by omega) x0 fun k k1 k2 k3=>?_);dsimp only;rw[hk,hfl];by_cases f1:X.length-k=0
 · rw[z55 (by simpa using f1)];refine z53 (h (X++Y) (arrOf st) (gallopOf st) (by rw[ha];simp) ?_ (z8y _));refine z5r.mpr ⟨sx,sy,fun x hx y hy=>?_⟩;obtain⟨j,hj,rfl⟩:=z6g hx;obtain⟨l,hl,rfl⟩:=z6g hy;have:=k2 j (z5q hj (Nat.le_of_sub_eq_zero f1));rw[ixX hj]at this;exact C.tr _ _ _ this (pY hl (z66 _))
 · rw[z6c (by simpa using f1)];have k4:k<X.length:=Nat.lt_of_sub_ne_zero f1;have xe:X.length-1<X.length:=Nat.sub_lt x0 Nat.one_pos;have ye:Y.length-1<Y.length:=Nat.sub_lt y0 Nat.one_pos;rw[show pre.length+k+(X.length-k)-1=pre.length+(X.length-1) by rw[z8f,z9j k1,Nat.add_sub_assoc x0]];refine z5w (qf (by rw[asz];exact z8u (z5q xe (z6f ..)) _) ?_);rw[ixX (j:=X.length-1) xe];refine z5w (zmd (b:=arrOf st) (st:=SortSt.mk' kd (arrOf st) ((P.setIfInBounds i (pre.length,X.length+Y.length,p1)).eraseIdxIfInBounds (i+1)) (gallopOf st) none) (x:=X[X.length-1]) (i:=pre.length+X.length) (n:=Y.length) (hint:=Y.length-1) C rfl (uX _ (z8b _)) ua (fun j l hj hl=>by rw[ixY (z70 hj hl),ixY hl];exact pY hl hj) (by omega) ye fun t t1 t2 t3=>?_);dsimp only;by_cases f2:t=0
   · rw[z55 (by simpa using f2)];refine z53 (h (X++Y) (arrOf st) (gallopOf st) (by rw[ha];simp) ?_ (z8y _));refine z5r.mpr ⟨sx,sy,fun x hx y hy=>?_⟩;obtain⟨j,hj,rfl⟩:=z6g hx;obtain⟨l,hl,rfl⟩:=z6g hy;have:=t3 l (f2▸z66 _) hl;rw[ixY hl]at this;exact C.tr _ _ _ (pX xe (Nat.le_sub_one_of_lt hj)) this
   · rw[z6c (by simpa using f2)];have t0:0<t:=Nat.pos_of_ne_zero f2;clear f1 f2;have ex:((arrOf st).extract (pre.length+k) (pre.length+X.length)).toList=X.drop k:=by rw[zpd haX k1 (z5p _),z7d (by rw[z6l];exact z5p _)]
     have ey:((arrOf st).extract (pre.length+X.length) (pre.length+X.length+t)).toList=Y.take t:=by have:=zpd (j:=0) (l:=t) haY (z66 _) t1;rw[lpx,Nat.add_zero,z9g,Nat.sub_zero]at this;exact this
     generalize hx:(arrOf st).extract (pre.length+k) (pre.length+X.length)=x at ex;generalize hy:(arrOf st).extract (pre.length+X.length) (pre.length+X.length+t)=y at ey;have xs:x.size=X.length-k:=by rw[<-Array.length_toList,ex,z6l]
     have ys:y.size=t:=by rw[<-Array.length_toList,ey,z6m,qbg t1]
     have ixx:∀{j},(hj:k+j<X.length)->ix x j=X[k+j]:=fun {j} hj=>by unfold ix;rw[<-z65,ex,z82,z5v hj];rfl
     have ixy:∀{j},(hj:j<t)->ix y j=Y[j]'(z5q hj t1):=fun {j} hj=>by unfold ix;rw[<-z65,ey,qat,z55 hj,z5v (z5q hj t1)];rfl
     have sX:zqe blt x:=zni irr (by rw[ex];exact z85 (List.drop_sublist _ _) sx);have sY:zqe blt y:=zni irr (by rw[ey];exact z85 (z90 _ _) sy);have uxx:∀z∈x.toList,U z:=fun z hz=>uX z (z9e (ex▸hz));have uyy:∀z∈y.toList,U z:=fun z hz=>uY z (z6x (ey▸hz));have hf:blt (ix y 0) (ix x 0)=true:=by have:=k3 k (z5p _) k4;rw[ixX k4]at this;rw[ixy t0,ixx (j:=0) k4];simpa using this
     have hl:∀j,j<t->blt (ix y j) (ix x (x.size-1))=true:=fun j hj=>by
       have:=t2 j hj;rw[ixY (z5q hj t1)]at this;have e:ix x (x.size-1)=X[X.length-1]:=by
         have q:k+(x.size-1)=X.length-1:=by rw[xs,<-Nat.add_sub_assoc (qa6 k4),z9j k1]
         rw[ixx (j:=x.size-1) (q▸xe)];congr 1
       rw[ixy hj,e];exact this
     have eL:pre.length+k+(X.length-k+t)=pre.length+(X.length+t):=by rw[<-z8f,z8f pre.length,z9j k1,z8f]
     have fin:∀(r:Array Keyed) (g:Nat),kz blt x y r->wpS (model prog w) A E s (do
         modify fun s=>setArr s (r.toList.zipIdx.foldl (fun a (p,j)=>a.setIfInBounds (pre.length+k+j) p) (arrOf s))
         return(failedOf (<-get)).isNone) Q (SortSt.mk' kd (arrOf st) ((P.setIfInBounds i (pre.length,X.length+Y.length,p1)).eraseIdxIfInBounds (i+1)) g none):=by
       intro r g gr;have rl:r.toList.length=X.length-k+t:=by rw[gr.2.length_eq,ex,ey,z5n,z6l,z6m,qbg t1]
       refine z5w (z8x ?_);refine z5w (qai ?_);have pl:=zjt (pre.length+k) r.toList 0 (arrOf st) (by rw[rl,Nat.add_zero,asz,eL];exact qaj (qaj (z6h t1 (z6f ..)) _) _);rw[Nat.add_zero]at pl;refine z53 (h (X.take k++(r.toList++Y.drop t)) _ g (Eq.trans pl ?_) ?_ ?_)
       · rw[rl,ha];have e1:(pre++(X++(Y++post))).take (pre.length+k)=pre++X.take k:=by rw[List.take_append,z7d (z6f ..),z7n,z8w k1]
         have e2:(pre++(X++(Y++post))).drop (pre.length+k+(X.length-k+t))=Y.drop t++post:=by rw[eL,<-z94,qaz,<-z94,qaz,z8v t1]
         rw[e1,e2];simp only[z59]
       · have inr:∀z∈r.toList,z∈X.drop k\/z∈Y.take t:=fun z hz=>by have:=gr.2.mem_iff.mp hz;rw[ex,ey]at this;exact z6i.mp this
         refine z5r.mpr ⟨z85 (z90 _ _) sx,z5r.mpr ⟨gr.1,z85 (List.drop_sublist _ _) sy,fun z hz v hv=>?_⟩,fun z hz v hv=>?_⟩
         · obtain⟨l,hl',rfl⟩:=z6g hv;rw[z6l]at hl';rw[z76];rcases inr z hz with q | q
           · obtain⟨j,hj,rfl⟩:=z6g q;rw[z6l]at hj;rw[z76];have hl2:=z86 hl';have:=t3 (t+l) (z6f ..) hl2;rw[ixY hl2]at this;exact C.tr _ _ _ (pX xe (Nat.le_sub_one_of_lt (z86 hj))) this
           · obtain⟨j,hj,rfl⟩:=z6g q;rw[z6m]at hj;rw[z75];exact pY (z86 hl') (z6h (z7g (z5q hj (qbh ..))) (z6f ..))
         · obtain⟨j,hj,rfl⟩:=z6g hz;rw[z6m]at hj;rw[z75];have jk:=z5q hj (qbh ..);have a1:=k2 j jk;rw[ixX (z5q jk k1)]at a1;have inY:∀v∈Y,le blt X[j] v:=fun v hv=>by obtain⟨l,hl',rfl⟩:=z6g hv;exact C.tr _ _ _ a1 (pY hl' (z66 _))
           rcases z6i.mp hv with hv | hv
           · rcases inr v hv with q | q
             · obtain⟨l,hl',rfl⟩:=z6g q;rw[z6l]at hl';rw[z76];exact pX (z86 hl') (z6h (z7g jk) (z6f ..))
             · exact inY v (z6x q)
           · exact inY v (z9e hv)
       · have g2:=gr.2;rw[ex,ey]at g2;refine List.Perm.trans (z8e _ (z78 _ g2)) ?_;rw[z59,z7i,<-z59,z7i]
     have xp:0<x.size:=by rw[xs];exact qa6 k4
     by_cases f3:X.length-k<=t
     · rw[z55 f3];refine z5w (zhw (st:=SortSt.mk' kd (arrOf st) ((P.setIfInBounds i (pre.length,X.length+Y.length,p1)).eraseIdxIfInBounds (i+1)) (gallopOf st) none) C ⟨sX,sY,uxx,uyy,fun z hz=>?_⟩ rfl xp (by rw[ys];exact t0) hf fun r g gr=>fin r g gr);obtain⟨j,hj,j2,rfl⟩:=zal (i:=0) (by rw[z9g];exact hz);exact C.asy _ _ (hl j (ys▸j2))
     · rw[z6c f3];refine z5w (zhx (st:=SortSt.mk' kd (arrOf st) ((P.setIfInBounds i (pre.length,X.length+Y.length,p1)).eraseIdxIfInBounds (i+1)) (gallopOf st) none) C ⟨sX,sY,uxx,uyy,fun z hz=>?_⟩ rfl xp (by rw[ys];exact t0) (by rw[ys];exact hl (t-1) (Nat.sub_lt t0 Nat.one_pos)) fun r g gr=>fin r g gr);obtain⟨j,hj,j2,rfl⟩:=zal (i:=0) (by rw[z9g];exact hz);exact C.tr _ _ _ (C.asy _ _ hf) (sX 0 j hj j2)
end
section
variable {prog:Program}{w:World}{A:Around}{E:zVP}{s:Shared}{blt:Keyed->Keyed->Bool}{U:Keyed->Prop}{kd:SortKind}{st:SortSt}{arr:Array Keyed}
def Asc(blt:Keyed->Keyed->Bool)(a:Array Keyed)(lo hi:Nat):Prop:=∀i j,lo<=i->i<j->j<hi->blt (ix a i) (ix a j)=true
def Des(blt:Keyed->Keyed->Bool)(a:Array Keyed)(lo hi:Nat):Prop:=∀i j,lo<=i->i<j->j<hi->blt (ix a j) (ix a i)=true
def Dis(blt:Keyed->Keyed->Bool)(a:Array Keyed):Prop:=∀i j,i≠j->i<a.size->j<a.size->blt (ix a i) (ix a j)=false->blt (ix a j) (ix a i)=true
theorem Cmp.ltr(C:Cmp prog w A E s kd U blt){x y z:Keyed}(h1:blt x y=true)(h2:blt y z=true):blt x z=true:=by
 cases q:blt x z
 · have:=C.tr y z x (C.asy _ _ h2) q;rw[this]at h1;cases h1
 · rfl
theorem yz(C:Cmp prog w A E s kd U blt)(hk:kindOf st=kd)(ua:∀x∈(arrOf st).toList,U x){i j:Nat}(hi:i<(arrOf st).size)(hj:j<(arrOf st).size){Q:Option Bool->SortSt->Prop}(h:Q (some (blt (ix (arrOf st) i) (ix (arrOf st) j))) st):wpS (model prog w) A E s (ltAt' i j) Q st:=by rw[ltAt'_eq];refine z5w (qai ?_);refine z5w (qf hi (z5w (qf hj ?_)));exact C.lt _ _ (ua _ (ki hi)) (ua _ (ki hj)) _ _ hk h
theorem Asc.snoc(C:Cmp prog w A E s kd U blt){a:Array Keyed}{lo n:Nat}(h:Asc blt a lo (lo+n))(n1:1<=n)(hl:blt (ix a (lo+n-1)) (ix a (lo+n))=true):Asc blt a lo (lo+(n+1)):=fun i j hi hij hj=>by
 rcases z7r j (lo+n)with q | q
 · exact h i j hi hij q
 · have:j=lo+n:=by omega
   subst this;rcases z7r i (lo+n-1)with q2 | q2
   · exact C.ltr (h i (lo+n-1) hi q2 (by omega)) hl
   · have:i=lo+n-1:=by omega
     subst this;exact hl
theorem Des.snoc(C:Cmp prog w A E s kd U blt){a:Array Keyed}{lo n:Nat}(h:Des blt a lo (lo+n))(n1:1<=n)(hl:blt (ix a (lo+n)) (ix a (lo+n-1))=true):Des blt a lo (lo+(n+1)):=fun i j hi hij hj=>by
 rcases z7r j (lo+n)with q | q
 · exact h i j hi hij q
 · have:j=lo+n:=by omega
   subst this;rcases z7r i (lo+n-1)with q2 | q2
   · exact C.ltr hl (h i (lo+n-1) hi q2 (by omega))
   · have:i=lo+n-1:=by omega
     subst this;exact hl
theorem zdm{a:Array Keyed}{i j:Nat}(hj:j<=a.size)(k:Nat):ix (mirror a i j ((j-i)/2)) k=if i<=k/\k<j then ix a (i+j-1-k)else ix a k:=by have e:=getElem?_mirror_all (i:=i) hj k;unfold ix;rw[e];split<;>rfl
theorem zdn{a:Array Keyed}{src d:Nat}(hs:src<a.size)(hd:d<=src)(k:Nat):ix (bubble a src d) k=if k=src-d then ix a src else if src-d<k/\k<=src then ix a (k-1)else ix a k:=by
 have e:=getElem?_bubble hs d hd k;unfold ix;rw[e];split
 · rfl
 · split<;>rfl
structure Sam (lo:Nat) (a a':Array Keyed):Prop where
 pm:a'.toList.Perm a.toList
 ne:∀i,i<lo->ix a' i=ix a i
theorem Sam.size{lo:Nat}{a a':Array Keyed}(h:Sam lo a a'):a'.size=a.size:=by have:=h.pm.length_eq;rw[Array.length_toList,Array.length_toList]at this;exact this
theorem Sam.refl(lo:Nat)(a:Array Keyed):Sam lo a a:=⟨z8y _,fun _ _=>rfl⟩
theorem Sam.trans{lo:Nat}{a b c:Array Keyed}(h:Sam lo a b)(h':Sam lo b c):Sam lo a c:=⟨h'.pm.trans h.pm,fun i hi=>(h'.ne i hi).trans (h.ne i hi)⟩
theorem zla{lo:Nat}{a:Array Keyed}{j:Nat}(hj:j<=a.size):Sam lo a (mirror a lo j ((j-lo)/2)) :=
 ⟨(mirror_perm a lo j ((j-lo)/2)).toList,fun i hi=>by rw[zdm hj,z6c (by omega)]⟩
theorem zlb{lo:Nat}{a:Array Keyed}{src d:Nat}(hs:src<a.size)(hd:d<=src)(hl:lo<=src-d):Sam lo a (bubble a src d) :=
 ⟨(bubble_perm a src d).toList,fun i hi=>by rw[zdn hs hd,z6c (by omega),z6c (by omega)]⟩
theorem Asc.mir{a:Array Keyed}{lo n:Nat}(h:Des blt a lo (lo+n))(hn:lo+n<=a.size):Asc blt (mirror a lo (lo+n) ((lo+n-lo)/2)) lo (lo+n):=fun i j hi hij hj=>by rw[zdm hn,zdm hn,z55 ⟨hi,Nat.lt_trans hij hj⟩,z55 ⟨z6h hi (z7g hij),hj⟩];clear hn;exact h _ _ (by omega) (by omega) (by omega)
theorem Dis.of{lo:Nat}{a a':Array Keyed}(d:a.toList.Pairwise fun x y=>blt x y=true\/blt y x=true)(h:Sam lo a a'):a'.toList.Pairwise fun x y=>blt x y=true\/blt y x=true :=
 (h.pm.pairwise_iff (fun {x y} q=>q.symm)).mpr d
theorem zkn{a:Array Keyed}(d:a.toList.Pairwise fun x y=>blt x y=true\/blt y x=true):Dis blt a:=by
 have e:∀{i} (h:i<a.toList.length),a.toList[i]=ix a i:=fun {i} h=>by rw[Array.length_toList]at h;unfold ix;rw[z6k h];simp
 intro i j hij hi hj hf;rw[z7e]at d;rcases z7r i j with q | q
 · have:=d i j (by rw[Array.length_toList];exact hi) (by rw[Array.length_toList];exact hj) q;rw[e,e]at this;rcases this with z | z
   · rw[z]at hf;cases hf
   · exact z
 · have:=d j i (by rw[Array.length_toList];exact hj) (by rw[Array.length_toList];exact hi) (by omega);rw[e,e]at this;rcases this with z | z
   · exact z
   · rw[z]at hf;cases hf
theorem zmf(C:Cmp prog w A E s kd U blt)(hk:kindOf st=kd)(ua:∀x∈(arrOf st).toList,U x)(hd:Dis blt (arrOf st)){lo n0 nrem:Nat}(hs:lo+nrem=(arrOf st).size)(n1:1<=n0)(n2:n0<=nrem)(h0:Asc blt (arrOf st) lo (lo+n0)){Q:Option (Option Nat)×Nat->SortSt->Prop}
   (h:∀n,n0<=n->n<=nrem->Asc blt (arrOf st) lo (lo+n)->(n=nrem\/blt (ix (arrOf st) (lo+n)) (ix (arrOf st) (lo+n-1))=true)->Q (none,n) st) :
   wpS (model prog w) A E s (forIn [n0:nrem] ((none,n0):Option (Option Nat)×Nat) fun _ __s=>do
     let __x <-ltAt' (lo+__s.snd) (lo+__s.snd-1)
     match __x with
     |some smaller=>if smaller=true then pure (ForInStep.done (none,__s.snd))else pure (ForInStep.yield (none,__s.snd+1))
     |_=>pure (ForInStep.done (some none,__s.snd))) Q st:=by
 refine z69 (I:=fun x c st'=>st'=st/\c=(none,x)/\Asc blt (arrOf st) lo (lo+x)) ?_ ?_ ⟨rfl,rfl,h0⟩
 · rintro x c st' hx1 hx ⟨rfl,rfl,ac⟩;dsimp only;refine z5w (yz C hk ua (by omega) (by omega) ?_);dsimp only;cases q:blt (ix (arrOf st') (lo+x)) (ix (arrOf st') (lo+x-1))
   · simp only[z50,z61];exact z53 ⟨rfl,rfl,ac.snoc C (by omega) (hd _ _ (by omega) (by omega) (by omega) q)⟩
   · simp only[z7l];exact z53 (h x hx1 (by omega) ac (.inr q))
 · rintro c st' ⟨rfl,rfl,ac⟩;rw[qab n2]at ac ⊢;exact h nrem n2 (z5p _) ac (.inl rfl)
theorem ze2(C:Cmp prog w A E s kd U blt)(hk:kindOf st=kd)(ua:∀x∈(arrOf st).toList,U x)(hd:(arrOf st).toList.Pairwise fun x y=>blt x y=true\/blt y x=true){lo nrem:Nat}(hs:lo+nrem=(arrOf st).size)(n0:1<=nrem){Q:Option Nat->SortSt->Prop}
   (h:∀n a',1<=n->n<=nrem->Sam lo (arrOf st) a'->Asc blt a' lo (lo+n)->Q (some n) (setArr st a')):wpS (model prog w) A E s (countRun' lo nrem) Q st:=by
 have es:st=setArr st (arrOf st):=rfl;rw[countRun'_eq];refine z5w (z7f (zmf (n0:=1) C hk ua (zkn hd) hs (z5p _) n0 (fun i j a b c=>by omega) (Q:=fun c st'=>st'=st/\∃n,c=(none,n)/\1<=n/\n<=nrem/\Asc blt (arrOf st) lo (lo+n)/\(n=nrem\/blt (ix (arrOf st) (lo+n)) (ix (arrOf st) (lo+n-1))=true)) fun n a1 a2 a3 a4=>⟨rfl,n,rfl,a1,a2,a3,a4⟩) ?_);rintro c st' ⟨rfl,n,rfl,a1,a2,a3,a4⟩;dsimp only;by_cases e1:n=nrem
 · rw[z55 (by simpa using e1)];have:=h n (arrOf st') a1 a2 (Sam.refl _ _) a3;rw[<-es]at this;exact z53 this
 · rw[z6c (by simpa using e1)];have a4:=a4.resolve_left e1;by_cases e2:n>1
   · rw[z55 e2];refine z5w (yz C hk ua (by omega) (by omega) ?_);dsimp only;rw[a3 lo (lo+n-1) (z5p _) (by omega) (by omega)];simp only[z7l];have:=h n (arrOf st') a1 a2 (Sam.refl _ _) a3;rw[<-es]at this;exact z53 this
   · rw[z6c e2];have:n=1:=by omega
     subst this;refine z5w (zaf ?_);refine z5w (z7f (z69 (I:=fun x c st2=>st2=st'/\c=(none,x,0)/\Des blt (arrOf st') lo (lo+x)) (Q:=fun c st2=>st2=st'/\∃n,c=(none,n,0)/\2<=n/\n<=nrem/\Des blt (arrOf st') lo (lo+n)) ?_ ?_ ⟨rfl,rfl,fun i j p1 p2 p3=>?_⟩) ?_)
     · rintro x c st2 hx1 hx ⟨rfl,rfl,de⟩;dsimp only;refine z5w (yz C hk ua (by omega) (by omega) ?_);dsimp only;cases q:blt (ix (arrOf st2) (lo+x)) (ix (arrOf st2) (lo+x-1))
       · simp only[z50,z61];refine z5w (yz C hk ua (by omega) (by omega) ?_);dsimp only;rw[zkn hd _ _ (by omega) (by omega) (by omega) q];simp only[z7l];exact z53 ⟨rfl,x,rfl,by omega,by omega,de⟩
       · simp only[z7l];rw[z6c (by decide)];exact z53 ⟨rfl,rfl,de.snoc C (by omega) q⟩
     · rintro c st2 ⟨rfl,rfl,de⟩;have e:1+1<=nrem:=by omega
       rw[qab e]at de ⊢;exact⟨rfl,nrem,rfl,e,z5p _,de⟩
     · have:i=lo:=by omega
       subst this;have:j=i+1:=by omega
       subst this;simpa using a4
     · rintro c st2 ⟨rfl,n,rfl,n2,n3,de⟩;dsimp only;rw[z6c (by decide)];rw[reverseSlice'_eq];refine z5w (z8x ?_);have sm:=zla (lo:=lo) (a:=arrOf st2) (j:=lo+n) (by omega);have am:=Asc.mir de (by omega);generalize hm:mirror (arrOf st2) lo (lo+n) ((lo+n-lo)/2)=a2 at sm am;have z2:=sm.size;refine z5w (z7f (zmf (st:=setArr st2 a2) (n0:=n) C hk (fun x hx=>ua x (sm.pm.mem_iff.mp hx)) (zkn (Dis.of hd sm)) (by show lo+nrem=a2.size;omega) (by omega) n3 am (Q:=fun c st'=>st'=setArr st2 a2/\∃m,c=(none,m)/\n<=m/\m<=nrem/\Asc blt a2 lo (lo+m)) fun m b1 b2 b3 b4=>⟨rfl,m,rfl,b1,b2,b3⟩) ?_);rintro c st3 ⟨rfl,m,rfl,b1,b2,b3⟩;exact z53 (h m a2 (by omega) b2 sm b3)
theorem zc2(C:Cmp prog w A E s kd U blt)(hk:kindOf st=kd)(ua:∀x∈(arrOf st).toList,U x)(hd:(arrOf st).toList.Pairwise fun x y=>blt x y=true\/blt y x=true){lo n ok:Nat}(hs:lo+n<=(arrOf st).size)(o1:1<=ok)(o2:ok<=n)(h0:Asc blt (arrOf st) lo (lo+ok)){Q:Bool->SortSt->Prop}
   (h:∀a',Sam lo (arrOf st) a'->Asc blt a' lo (lo+n)->Q true (setArr st a')):wpS (model prog w) A E s (binarySort' lo n ok) Q st:=by
 rw[binarySort'_eq];rw[Nat.max_eq_left o1];refine z5w (z7f (z69 (I:=fun x c st2=>c.1=none/\∃a',st2=setArr st a'/\Sam lo (arrOf st) a'/\Asc blt a' lo (lo+x)) (Q:=fun c st2=>c.1=none/\∃a',st2=setArr st a'/\Sam lo (arrOf st) a'/\Asc blt a' lo (lo+n)) ?_ ?_ ⟨rfl,arrOf st,rfl,Sam.refl _ _,h0⟩) ?_)
 · rintro x c st2 hx1 hx ⟨hc,a',rfl,sm,ac⟩;have za:=sm.size;have ua':∀y∈(arrOf (setArr st a')).toList,U y:=fun y hy=>ua y (sm.pm.mem_iff.mp hy);have di:Dis blt a':=zkn (Dis.of hd sm);dsimp only;refine z5w (z7f (z69 (I:=fun y c st3=>st3=setArr st a'/\∃l r,c=(none,l,r)/\l<=r/\r<=x/\(∀i,i<l->blt (ix a' (lo+i)) (ix a' (lo+x))=true)/\(∀i,r<=i->i<x->blt (ix a' (lo+x)) (ix a' (lo+i))=true)/\r+y<=x+l)
     (Q:=fun c st3=>st3=setArr st a'/\∃l,c=(none,l,l)/\l<=x/\(∀i,i<l->blt (ix a' (lo+i)) (ix a' (lo+x))=true)/\(∀i,l<=i->i<x->blt (ix a' (lo+x)) (ix a' (lo+i))=true)) ?_ ?_ ⟨rfl,0,x,rfl,z66 _,z5p _,fun i hi=>absurd hi (z9u _),fun i h1 h2=>absurd h2 (qae.mpr h1),z5p _⟩) ?_)
   · rintro y c st3 _ hy ⟨rfl,l,r,rfl,g1,g2,g3,g4,g5⟩;dsimp only;by_cases e:l ≥ r
     · rw[z55 e];cases z8p g1 e;exact z53 ⟨rfl,l,rfl,g2,g3,g4⟩
     · rw[z6c e];have m1:l<=(l+r)/2:=by omega
       have m2:(l+r)/2<r:=by omega
       clear e g1 hy hx1 h0 o1 o2;generalize (l+r)/2=m at m1 m2 ⊢;have mx:=z5q m2 g2;have xz:lo+x<a'.size:=by omega
       have mz:lo+m<a'.size:=by omega
       clear hs hx za;refine z5w (yz (st:=setArr st a') C hk ua' xz mz ?_);dsimp only;show wpS _ _ _ _ (if blt (ix a' (lo+x)) (ix a' (lo+m))=true then _ else _) _ _;cases q:blt (ix a' (lo+x)) (ix a' (lo+m))
       · simp only[z50,z61];have q':=di _ _ (by omega) xz mz q;clear xz mz;refine z53 ⟨rfl,m+1,r,rfl,m2,g2,fun i hi=>?_,g4,by omega⟩;rcases z7r i m with z | z
         · exact C.ltr (ac (lo+i) (lo+m) (z6f ..) (z8u z _) (z8u mx _)) q'
         · rw[z8p (z92 hi) z];exact q'
       · simp only[z7l];clear xz mz;refine z53 ⟨rfl,l,m,rfl,m1,z7g mx,g3,fun i h1 h2=>?_,by omega⟩;rcases z7r m i with z | z
         · exact C.ltr q (ac (lo+m) (lo+i) (z6f ..) (z8u z _) (z8u h2 _))
         · rw[z8p z h1];exact q
   · rintro c st3 ⟨rfl,l,r,rfl,g1,g2,g3,g4,g5⟩;have:l=r:=by omega
     subst this;exact⟨rfl,l,rfl,g2,g3,g4⟩
   · rintro c st3 ⟨rfl,l,rfl,g2,g3,g4⟩;dsimp only;rw[moveDown'_eq];refine z5w (z8x ?_);have hb1:lo+x<a'.size:=by omega
     have hb2:lo+x-(lo+x-(lo+l))=lo+l:=Nat.sub_sub_self (qaj g2 _);refine z53 ⟨rfl,bubble a' (lo+x) (lo+x-(lo+l)),rfl,sm.trans (zlb hb1 (qbn ..) (by rw[hb2];exact z6f ..)),fun i j hi hij hj=>?_⟩;rw[zdn hb1 (qbn ..),zdn hb1 (qbn ..),hb2];clear hb1 hb2 hs hx hx1 o1 o2 za h0;by_cases i1:i=lo+l
     · rw[z55 i1,z6c (by omega),z55 (by omega)];subst i1;obtain⟨c,rfl⟩:=Nat.exists_eq_add_of_lt hij;have:=g4 (l+c) (z6f ..) (by omega);rw[<-z8f]at this;exact this
     · rw[z6c i1];by_cases j1:j=lo+l
       · rw[z55 j1,z6c (by omega)];obtain⟨c,rfl⟩:=Nat.exists_eq_add_of_le hi;exact g3 c (by omega)
       · rw[z6c j1];by_cases i2:lo+l<i/\i<=lo+x
         · rw[z55 i2,z55 (by omega)];exact ac _ _ (by omega) (by omega) (by omega)
         · rw[z6c i2];by_cases j2:lo+l<j/\j<=lo+x
           · rw[z55 j2];exact ac _ _ (by omega) (by omega) (by omega)
           · rw[z6c j2];exact ac _ _ (by omega) (by omega) (by omega)
 · rintro c st2 ⟨hc,a',rfl,sm,ac⟩;rw[qab o2]at ac;exact⟨hc,a',rfl,sm,ac⟩
 · rintro c st2 ⟨hc,a',rfl,sm,ac⟩;dsimp only;rw[hc];exact z53 (h a' sm ac)
end
def Pm:List (Nat×Nat×Nat)->List (List Keyed)->Nat->Prop
 | [],[],_=>True
 | (s,n,_)::p,r::rs,f=>s=f/\n=r.length/\Pm p rs (f+r.length)
 |_,_,_=>False
theorem Pm.len:∀{p:List (Nat×Nat×Nat)}{rs:List (List Keyed)}{f:Nat},Pm p rs f->p.length=rs.length
 | [],[],_,_=>rfl
 | (s,n,q)::p,r::rs,f,h=>by rw[List.length_cons,List.length_cons,Pm.len h.2.2]
 | [],_::_,_,h=>h.elim
 |_::_,[],_,h=>h.elim
theorem Pm.app:∀{p p':List (Nat×Nat×Nat)}{rs rs':List (List Keyed)}{f:Nat},Pm p rs f->Pm p' rs' (f+rs.flatten.length)->Pm (p++p') (rs++rs') f
 | [],p',[],rs',f,_,h=>by simpa using h
 | (s,n,q)::p,p',r::rs,rs',f,h,h'=>⟨h.1,h.2.1,Pm.app h.2.2 (by rw[List.flatten_cons,z5n]at h';rw[z8f];exact h')⟩
 | [],_,_::_,_,_,h,_=>h.elim
 |_::_,_,[],_,_,h,_=>h.elim
theorem Pm.split:∀{p:List (Nat×Nat×Nat)}{rs:List (List Keyed)}{f i:Nat},Pm p rs f->i+1<p.length->∃Q1 Q2 R1 R2 X Y p1 p2,p=Q1++(f+R1.flatten.length,X.length,p1)::(f+R1.flatten.length+X.length,Y.length,p2)::Q2/\rs=R1++X::Y::R2/\Q1.length=i/\Pm Q1 R1 f/\Pm Q2 R2 (f+R1.flatten.length+X.length+Y.length)
 | (s,n,q)::(s',n',q')::p,r::r'::rs,f,0,h,_=>by obtain⟨rfl,rfl,rfl,rfl,h3⟩:=h;exact⟨[],p,[],rs,r,r',q,q',by simp,rfl,rfl,trivial,by simpa using h3⟩
 | (s,n,q)::p,r::rs,f,i+1,h,hl=>by
   obtain⟨rfl,rfl,h3⟩:=h;obtain⟨Q1,Q2,R1,R2,X,Y,p1,p2,e1,e2,e3,e4,e5⟩:=Pm.split (i:=i) h3 (by simpa using hl);refine⟨(s,r.length,q)::Q1,Q2,r::R1,R2,X,Y,p1,p2,?_,by rw[e2];rfl,by simp[e3],⟨rfl,rfl,e4⟩,?_⟩
   · rw[e1,List.flatten_cons,z5n,<-z8f];rfl
   · rw[List.flatten_cons,z5n,<-z8f];exact e5
 | [],_,_,_,_,hl=>by simp at hl
 | [_],_,_,0,_,hl=>by simp at hl
 |_::_::_,[_],_,0,h,_=>by obtain⟨_,_,h⟩:=h;exact h.elim
 |_::_::_,[],_,0,h,_=>h.elim
 |_::_,[],_,_+1,h,_=>h.elim
theorem Pm.pow(pw:Nat):∀{p:List (Nat×Nat×Nat)}{rs:List (List Keyed)}{f k:Nat},Pm p rs f->Pm (p.modify k fun x=>(x.1,x.2.1,pw)) rs f
 | [],[],_,_,_=>by simp[Pm]
 | (s,n,q)::p,r::rs,f,0,h=>h
 | (s,n,q)::p,r::rs,f,k+1,h=>⟨h.1,h.2.1,Pm.pow pw h.2.2⟩
 | [],_::_,_,_,h=>h.elim
 |_::_,[],_,_,h=>h.elim
section
variable {prog:Program}{w:World}{A:Around}{E:zVP}{s:Shared}{blt:Keyed->Keyed->Bool}{U:Keyed->Prop}{kd:SortKind}{st:SortSt}{T:List Keyed}
structure RI (blt:Keyed->Keyed->Bool) (kd:SortKind) (T:List Keyed) (st:SortSt) (lo:Nat) (rest:List Keyed):Prop where
 k:kindOf st=kd
 f:failedOf st=none
 pm:(arrOf st).toList.Perm T
 ex:∃rs:List (List Keyed),(arrOf st).toList=rs.flatten++rest/\Pm (pendingOf st).toList rs 0/\lo=rs.flatten.length/\∀r∈rs,r.Pairwise (le blt)/\0<r.length
theorem zb0(C:Cmp prog w A E s kd U blt)(uT:∀x∈T,U x){lo i:Nat}{rest:List Keyed}(R:RI blt kd T st lo rest)(hi:i+1<(pendingOf st).size):wpS (model prog w) A E s (mergeAt' i) (fun b st'=>b=true/\RI blt kd T st' lo rest/\(pendingOf st').size+1=(pendingOf st).size) st:=by
 obtain⟨rs,ea,ep,el,er⟩:=R.ex;obtain⟨Q1,Q2,R1,R2,X,Y,p1,p2,e1,e2,e3,e4,e5⟩:=ep.split (i:=i) (by rw[Array.length_toList];exact hi);rw[z97]at e1 e5;have gX:=er X (by rw[e2];simp);have gY:=er Y (by rw[e2];simp);have a1:(pendingOf st)[i]? = some (R1.flatten.length,X.length,p1):=by rw[<-z65,e1,<-e3,z51 (z5p _),z9n];rfl
 have a2:(pendingOf st)[i+1]? = some (R1.flatten.length+X.length,Y.length,p2):=by rw[<-z65,e1,<-e3,z51 (by omega),z7n];rfl
 refine zhy (pre:=R1.flatten) (X:=X) (Y:=Y) (post:=R2.flatten++rest) C R.k R.f rfl a1 a2 (by rw[ea,e2];simp[z59]) (fun x hx=>uT x (R.pm.mem_iff.mp hx)) gX.1 gY.1 gX.2 gY.2 fun Z a' g ez pz mz=>?_;have pl:(((pendingOf st).setIfInBounds i (R1.flatten.length,X.length+Y.length,p1)).eraseIdxIfInBounds (i+1)).toList=Q1++(R1.flatten.length,X.length+Y.length,p1)::Q2:=by
   have l1:i+1<((pendingOf st).setIfInBounds i (R1.flatten.length,X.length+Y.length,p1)).size:=by rw[qa5];exact hi
   rw[Array.eraseIdxIfInBounds,dif_pos l1,Array.toList_eraseIdx,qan,e1,<-e3];rw[z98 _ _ (z5p _),z9n,List.set_cons_zero,List.eraseIdx_append_of_length_le (by omega),z7n];rfl
 have zl:Z.length=X.length+Y.length:=by rw[mz.length_eq,z5n]
 refine⟨rfl,⟨rfl,rfl,?_,R1++Z::R2,?_,?_,?_,fun r hr=>?_⟩,?_⟩
 · refine List.Perm.trans ?_ R.pm;show a'.toList.Perm _;rw[ez,ea,e2];simp only[z9k,List.flatten_cons,z59];refine z8e _ ?_;rw[<-z59 X];exact z78 _ mz
 · show a'.toList=_;rw[ez];simp[z59]
 · show Pm (((pendingOf st).setIfInBounds i (R1.flatten.length,X.length+Y.length,p1)).eraseIdxIfInBounds (i+1)).toList _ 0;rw[pl];exact Pm.app e4 ⟨by rw[z97],zl.symm,by rw[z97,zl,<-z8f];exact e5⟩
 · rw[el,e2];simp only[z9k,List.flatten_cons,z5n,zl];omega
 · rcases z6i.mp hr with q | q
   · exact er r (by rw[e2];exact z6w _ q)
   · rcases z5y.mp q with rfl | q
     · exact⟨pz,by omega⟩
     · exact er r (by rw[e2];simp[q])
 · show(((pendingOf st).setIfInBounds i (R1.flatten.length,X.length+Y.length,p1)).eraseIdxIfInBounds (i+1)).size+1=_;rw[<-Array.length_toList,pl,<-Array.length_toList,e1];simp only[z5n,List.length_cons];omega
end
section
variable {prog:Program}{w:World}{A:Around}{E:zVP}{s:Shared}{blt:Keyed->Keyed->Bool}{U:Keyed->Prop}{kd:SortKind}{st:SortSt}{T:List Keyed}
theorem zua(C:Cmp prog w A E s kd U blt){a:Array Keyed}{lo n:Nat}(h:Asc blt a lo (lo+n))(hn:lo+n<=a.size):((a.toList.drop lo).take n).Pairwise (le blt):=by
 have e:∀{i} (h:i<a.toList.length),a.toList[i]=ix a i:=fun {i} h=>by rw[Array.length_toList]at h;unfold ix;rw[z6k h];simp
 rw[z7e];intro i j hi hj hij;rw[z6m,z6l,Array.length_toList]at hi hj;rw[z75,z75,z76,z76,e,e];exact C.asy _ _ (h _ _ (by omega) (by omega) (by omega))
theorem zk3{a a':Array Keyed}{lo:Nat}(h:Sam lo a a')(hl:lo<=a.size):a'.toList.take lo=a.toList.take lo:=by
 have hs:=h.size;apply List.ext_getElem?;intro i;rw[qat,qat];split
 · rename_i hi;rw[z65,z65,zj7 (by omega),zj7 (by omega),h.ne i hi]
 · rfl
theorem RI.sam{lo:Nat}{rest:List Keyed}{a':Array Keyed}(R:RI blt kd T st lo rest)(h:Sam lo (arrOf st) a'):RI blt kd T (setArr st a') lo (a'.toList.drop lo):=by
 obtain⟨rs,ea,ep,el,er⟩:=R.ex;have hl:lo<=(arrOf st).size:=by rw[<-Array.length_toList,ea,z5n,el];omega
 refine⟨R.k,R.f,h.pm.trans R.pm,rs,?_,ep,el,er⟩;have e1:a'.toList.take lo=rs.flatten:=by rw[zk3 h hl,ea,el,qa0]
 show a'.toList=_;rw[<-e1,z7i]
theorem RI.push{lo n:Nat}{a':Array Keyed}(R:RI blt kd T st lo ((arrOf st).toList.drop lo))(hs:lo+n<=(arrOf st).size)(n0:0<n)(hp:(((arrOf st).toList.drop lo).take n).Pairwise (le blt)):RI blt kd T (setPending st ((pendingOf st).push (lo,n,0))) (lo+n) ((arrOf st).toList.drop (lo+n)):=by
 obtain⟨rs,ea,ep,el,er⟩:=R.ex;have ln:(((arrOf st).toList.drop lo).take n).length=n:=by rw[z6m,z6l,Array.length_toList];omega
 refine⟨R.k,R.f,R.pm,rs++[((arrOf st).toList.drop lo).take n],?_,?_,?_,fun r hr=>?_⟩
 · show(arrOf st).toList=_;rw[z9k,z9z,z59,<-z94,z7i];exact ea
 · show Pm ((pendingOf st).push (lo,n,0)).toList _ 0;rw[z9b];exact Pm.app ep ⟨by rw[z97];exact el,ln.symm,trivial⟩
 · rw[z9k,z9z,z5n,ln,<-el]
 · rcases z6i.mp hr with q | q
   · exact er r q
   · rw[z6a.mp q];exact⟨hp,by omega⟩
theorem RI.pow{lo k pw:Nat}{rest:List Keyed}(R:RI blt kd T st lo rest):RI blt kd T (setPending st ((pendingOf st).modify k fun(x:Nat×Nat×Nat)=>(x.1,x.2.1,pw))) lo rest:=by obtain⟨rs,ea,ep,el,er⟩:=R.ex;refine⟨R.k,R.f,R.pm,rs,ea,?_,el,er⟩;show Pm ((pendingOf st).modify k _).toList rs 0;rw[Array.toList_modify];exact Pm.pow pw ep
theorem RI.small{lo:Nat}{rest:List Keyed}(R:RI blt kd T st lo rest):(pendingOf st).size<=lo:=by
 obtain⟨rs,ea,ep,el,er⟩:=R.ex;rw[<-Array.length_toList,ep.len,el];clear ea ep el
 induction rs with
 |nil=>simp
 | cons r rs ih=>
   have:=ih fun x hx=>er x (z5u _ hx);have:=(er r (z5z ..)).2;rw[List.length_cons,List.flatten_cons,z5n];omega
theorem RI.fin(R:RI blt kd T st T.length [])(hp:(pendingOf st).size<=1):(arrOf st).toList.Pairwise (le blt):=by
 obtain⟨rs,ea,ep,el,er⟩:=R.ex;rw[<-Array.length_toList,ep.len]at hp;rw[ea,z6e]
 match rs,hp,er with
 | [],_,_=>exact List.Pairwise.nil
 | [r],_,er=>rw[z9z];exact(er r (z5z ..)).1
theorem RI.rest{lo:Nat}{rest:List Keyed}(R:RI blt kd T st lo rest):(arrOf st).toList.drop lo=rest:=by obtain⟨rs,ea,ep,el,er⟩:=R.ex;rw[ea,el,qaz]
theorem zjg{n:Nat}(h:1<n):n-2+1<n:=by omega
theorem ze0(C:Cmp prog w A E s kd U blt)(hk:kindOf st=kd)(hf:failedOf st=none)(hp:pendingOf st=#[])(uT:∀x∈(arrOf st).toList,U x)(hd:(arrOf st).toList.Pairwise fun x y=>blt x y=true\/blt y x=true){Q:Unit->SortSt->Prop}
   (h:∀st',(arrOf st').toList.Perm (arrOf st).toList->failedOf st'=none->(arrOf st').toList.Pairwise (le blt)->Q () st'):wpS (model prog w) A E s sortRuns' Q st:=by
 have tl:(arrOf st).toList.length=(arrOf st).size:=Array.length_toList;rw[sortRuns'_eq];refine z5w (qai ?_);dsimp only;generalize hT:(arrOf st).toList=T at *;generalize hz:(arrOf st).size=sz at *;generalize minRun' sz sz 0=mr;have R0:RI blt kd T st 0 ((arrOf st).toList.drop 0):=⟨hk,hf,by rw[hT],[],by rw[z9g];rfl,by rw[hp];trivial,rfl,fun r hr=>by cases hr⟩
 refine z5w (z7f (z69
   (I:=fun x c st'=>∃lo,c=(none,lo)/\lo<=sz/\(x<=lo\/lo=sz)/\RI blt kd T st' lo ((arrOf st').toList.drop lo))
   (Q:=fun c st'=>c=(none,sz)/\RI blt kd T st' sz ((arrOf st').toList.drop sz)) ?step ?fin ⟨0,rfl,z66 _,.inl (z5p _),R0⟩) ?post)
 case fin=>
   rintro c st' ⟨lo,rfl,l1,l2,R⟩;have:lo=sz:=by omega
   subst this;exact⟨rfl,R⟩
 case step=>
   rintro x c st' _ hx ⟨lo,rfl,l1,l2,R⟩;dsimp only;by_cases e0:lo ≥ sz
   · rw[z55 e0];cases z8p l1 e0;exact z53 ⟨rfl,R⟩
   · rw[z6c e0];have xl:x<=lo:=l2.resolve_right fun q=>e0 (q▸z5p _);clear hx l2;have zs:(arrOf st').size=sz:=by rw[<-tl,<-Array.length_toList];exact R.pm.length_eq
     have u':∀x∈(arrOf st').toList,U x:=fun x hx=>uT x (R.pm.mem_iff.mp hx);have d':(arrOf st').toList.Pairwise fun x y=>blt x y=true\/blt y x=true:=(R.pm.pairwise_iff (fun {x y} q=>q.symm)).mpr hd;refine z5w (ze2 C R.k u' d' (nrem:=sz-lo) (by rw[zs];exact z9j l1) (qa6 (Nat.lt_of_not_le e0)) fun n a1 n1 n2 sm ac=>?_);dsimp only;have za:=sm.size;have R1:=R.sam sm;by_cases e1:n<mr
     · rw[z55 e1];refine z5w (zaf ?_);have m0:0<min (sz-lo) mr:=Nat.le_min.mpr ⟨z6h n1 n2,z6h n1 (z7g e1)⟩;have m1:lo+min (sz-lo) mr<=sz:=Nat.add_le_of_le_sub' l1 (qbh ..);refine z5w (zc2 (st:=setArr st' a1) (n:=min (sz-lo) mr) (ok:=n) C R.k (fun x hx=>u' x (sm.pm.mem_iff.mp hx)) (Dis.of d' sm) (by show lo+min (sz-lo) mr<=a1.size;rw[za,zs];exact m1) n1 (Nat.le_min.mpr ⟨n2,z7g e1⟩) ac fun a2 s2 c2=>?_);simp only[z8d,z50,z61];have RR:=R.sam (sm.trans s2);have hp:=zua C c2 (show lo+min (sz-lo) mr<=a2.size from by rw[(sm.trans s2).size,zs];exact m1);have last:∀{st2:SortSt},RI blt kd T st2 lo (a2.toList.drop lo)->RI blt kd T (setPending st2 ((pendingOf st2).push (lo,min (sz-lo) mr,0))) (lo+min (sz-lo) mr) ((arrOf (setPending st2 ((pendingOf st2).push (lo,min (sz-lo) mr,0)))).toList.drop (lo+min (sz-lo) mr)):=fun {st2} R2=>by
         have e:=R2.rest;have z2:(arrOf st2).size=sz:=by rw[<-tl,<-Array.length_toList];exact R2.pm.length_eq
         have R3:RI blt kd T st2 lo ((arrOf st2).toList.drop lo):=by rw[e];exact R2
         exact R3.push (a':=#[]) (by rw[z2];exact m1) m0 (by rw[e];exact hp)
       refine z5w (qai ?_);split
       · rename_i s1 n1 q heq;refine z5w (z7f (z69 (I:=fun x c st2=>c.1=none/\RI blt kd T st2 lo (a2.toList.drop lo)) (Q:=fun c st2=>c.1=none/\RI blt kd T st2 lo (a2.toList.drop lo)) ?_ (fun c st2 hh=>hh) ⟨rfl,RR⟩) ?_)
         · rintro x c st2 _ _ ⟨_,R2⟩;refine z5w (qai ?_);by_cases g:(pendingOf st2).size>1
           · rw[z55 g];have gi:(pendingOf st2).size-2<(pendingOf st2).size:=Nat.lt_of_succ_lt (zjg g);rw[z6k gi];dsimp only;split
             · exact z53 ⟨rfl,R2⟩
             · refine z5w (z7f (zb0 C uT R2 (zjg g)) fun b st3 hb=>?_);obtain⟨rfl,R3,_⟩:=hb;simp only[z8d,z50,z61];exact z53 ⟨rfl,R3⟩
           · rw[z6c g];exact z53 ⟨rfl,R2⟩
         · rintro c st2 ⟨hc,R2⟩;rw[hc];dsimp only;refine z5w (z8x ?_);refine z5w (z8x ?_);exact z53 ⟨_,rfl,m1,.inl (qa1 xl m0),last (st2:=setPending st2 ((pendingOf st2).modify ((pendingOf st2).size-1) fun x=>(x.fst,x.2.fst,power' sz (2*s1+n1) (2*s1+n1+n1+min (sz-lo) mr) sz))) R2.pow⟩
       · refine z5w (z8x ?_);exact z53 ⟨_,rfl,m1,.inl (qa1 xl m0),last RR⟩
     · rw[z6c e1];have m0:0<n:=n1;have m1:lo+n<=sz:=Nat.add_le_of_le_sub' l1 n2;have RR:=R.sam sm;have hp:=zua C ac (show lo+n<=a1.size from by rw[za,zs];exact m1);have last:∀{st2:SortSt},RI blt kd T st2 lo (a1.toList.drop lo)->RI blt kd T (setPending st2 ((pendingOf st2).push (lo,n,0))) (lo+n) ((arrOf (setPending st2 ((pendingOf st2).push (lo,n,0)))).toList.drop (lo+n)):=fun {st2} R2=>by
         have e:=R2.rest;have z2:(arrOf st2).size=sz:=by rw[<-tl,<-Array.length_toList];exact R2.pm.length_eq
         have R3:RI blt kd T st2 lo ((arrOf st2).toList.drop lo):=by rw[e];exact R2
         exact R3.push (a':=#[]) (by rw[z2];exact m1) m0 (by rw[e];exact hp)
       refine z5w (qai ?_);split
       · rename_i s1 n1 q heq;refine z5w (z7f (z69 (I:=fun x c st2=>c.1=none/\RI blt kd T st2 lo (a1.toList.drop lo)) (Q:=fun c st2=>c.1=none/\RI blt kd T st2 lo (a1.toList.drop lo)) ?_ (fun c st2 hh=>hh) ⟨rfl,RR⟩) ?_)
         · rintro x c st2 _ _ ⟨_,R2⟩;refine z5w (qai ?_);by_cases g:(pendingOf st2).size>1
           · rw[z55 g];have gi:(pendingOf st2).size-2<(pendingOf st2).size:=Nat.lt_of_succ_lt (zjg g);rw[z6k gi];dsimp only;split
             · exact z53 ⟨rfl,R2⟩
             · refine z5w (z7f (zb0 C uT R2 (zjg g)) fun b st3 hb=>?_);obtain⟨rfl,R3,_⟩:=hb;simp only[z8d,z50,z61];exact z53 ⟨rfl,R3⟩
           · rw[z6c g];exact z53 ⟨rfl,R2⟩
         · rintro c st2 ⟨hc,R2⟩;rw[hc];dsimp only;refine z5w (z8x ?_);refine z5w (z8x ?_);exact z53 ⟨_,rfl,m1,.inl (qa1 xl m0),last (st2:=setPending st2 ((pendingOf st2).modify ((pendingOf st2).size-1) fun x=>(x.fst,x.2.fst,power' sz (2*s1+n1) (2*s1+n1+n1+n) sz))) R2.pow⟩
       · refine z5w (z8x ?_);exact z53 ⟨_,rfl,m1,.inl (qa1 xl m0),last RR⟩
 case post=>
   rintro c st' ⟨rfl,R⟩;dsimp only;have e:(arrOf st').toList.drop sz=[]:=z79 (by rw[R.pm.length_eq,tl];exact z5p _);rw[e]at R;have sm:=R.small;refine z5w (z7f (z69 (I:=fun x c st2=>c.1=none/\RI blt kd T st2 sz []/\((pendingOf st2).size+x<=sz+1\/(pendingOf st2).size<=1)) (Q:=fun c st2=>c.1=none/\RI blt kd T st2 sz []/\(pendingOf st2).size<=1) ?_ ?_ ⟨rfl,R,.inl (by omega)⟩) ?_)
   · rintro x c st2 _ hx ⟨_,R2,p2⟩;refine z5w (qai ?_);by_cases g:(pendingOf st2).size<=1
     · rw[z55 g];exact z53 ⟨rfl,R2,g⟩
     · rw[z6c g];refine z5w (z7f (zb0 C uT R2 ?_) fun b st3 hb=>?_)
       · have any:∀(q:Bool),(if q=true then (pendingOf st2).size-2-1 else (pendingOf st2).size-2)+1<(pendingOf st2).size:=fun q=>by cases q<;>simp<;>omega
         exact any _
       · obtain⟨rfl,R3,z3⟩:=hb;simp only[z8d,z50,z61];exact z53 ⟨rfl,R3,by omega⟩
   · rintro c st2 ⟨hc,R2,p2⟩;refine⟨hc,R2,?_⟩;rcases p2 with p2 | p2
     · have:max 0 sz=sz:=by omega
       omega
     · exact p2
   · rintro c st2 ⟨hc,R2,p2⟩;have R3:RI blt kd T st2 T.length []:=by rw[tl];exact R2
     have:=h st2 R2.pm R2.f (R3.fin p2);rw[hc];exact z53 this
end
def nums(z:Str):List Int:=z.cps.toList.map Int.ofNat
theorem zoc:∀(x y:List Nat),(x.map Int.ofNat<y.map Int.ofNat)↔x<y
 | [],[]=>by simp
 | [],_::_=>by simp
 |_::_,[]=>by simp
 | a::x,b::y=>by
   rw[z5x,z5x,z7j,z7j,zoc x y];constructor
   · rintro(h | ⟨h,h'⟩)
     · exact .inl (qbi.mp h)
     · exact .inr ⟨Int.ofNat.inj h,h'⟩
   · rintro(h | ⟨h,h'⟩)
     · exact .inl (qbi.mpr h)
     · exact .inr ⟨z7k Int.ofNat h,h'⟩
def bk(kc:Keyed->List Int)(x y:Keyed):Bool:=decide (kc x<kc y)
section
variable {prog:Program}{w:World}{A:Around}{E:zVP}{s:Shared}{kd:SortKind}{U:Keyed->Prop}{kc:Keyed->List Int}
theorem zkq(h:∀x y,U x->U y->∀(E':zVP) (Q:Bool->Shared->Prop),Q (bk kc x y) s->wpAny (model prog w) A (keyLt' kd x.1 y.1) Q E' s):Cmp prog w A E s kd U (bk kc) where
 lt:=fun x y hx hy st Q hk hq=>by rw[lt'_eq];refine z5w (qai ?_);rw[hk];refine z5w (wpS_lift (qa9 ?_));refine h x y hx hy _ _ ?_;exact⟨rfl,z53 hq⟩
 asy:=fun x y hx=>by simp only[bk,qa7,z7o]at *;exact List.lt_asymm hx
 tr:=fun x y z h1 h2=>by simp only[bk,z7o]at *;exact z8i.mpr (List.le_trans (z8i.mp h1) (z8i.mp h2))
theorem zlh{a b:Int}{t u:Tok}{Q:Bool->Shared->Prop}(h:Q (decide (a<b)) s):wpAny (model prog w) A (oneLt' false (.int a t) (.int b u)) Q E s:=by rw[oneLt'_eq];simp only[z50,z61];refine z5o (wpAny_richCompare_same (op:=.Lt) (typeIs_int s a t) (typeIs_int s b u) slot_int_lt (call_int_lt ⟨by simp,?_⟩));exact z7h h
theorem zlg{a b:Str}{t u:Tok}{Q:Bool->Shared->Prop}(h:Q (decide (a.cps.toList<b.cps.toList)) s):wpAny (model prog w) A (oneLt' false (.str a t) (.str b u)) Q E s:=by rw[oneLt'_eq];simp only[z50,z61];refine z5o (wpAny_richCompare_same (op:=.Lt) (typeIs_str s a t) (typeIs_str s b u) slot_str_lt (call_str_lt ⟨by simp,?_⟩));exact z7h h
theorem cmp_int(hU:∀x,U x->∃n t,x.1=.int n t/\kc x=[n]):Cmp prog w A E s oneType' U (bk kc):=zkq fun x y hx hy E' Q hq=>by
 obtain⟨n,t,e,k⟩:=hU x hx;obtain⟨m,u,e',k'⟩:=hU y hy;rw[e,e',keyLt'_oneType];refine oneLt_int ?_;have:bk kc x y=decide (n<m):=by unfold bk;rw[k,k',z7c,z7j];simp
 rw[<-this];exact hq
theorem cmp_str(hU:∀x,U x->∃z t,x.1=.str z t/\kc x=nums z):Cmp prog w A E s oneType' U (bk kc):=zkq fun x y hx hy E' Q hq=>by
 obtain⟨n,t,e,k⟩:=hU x hx;obtain⟨m,u,e',k'⟩:=hU y hy;rw[e,e',keyLt'_oneType];refine oneLt_str ?_;have:bk kc x y=decide (n.cps.toList<m.cps.toList):=by unfold bk;rw[k,k',z7c];exact zoc _ _
 rw[<-this];exact hq
theorem zll(fl:Bool)(x y:Value):keyLt' (tuples' fl) x y=(do
   let xs <-Builtin.List.listItems x;let ys <-Builtin.List.listItems y
   for ((p,q),i)in (xs.toList.zip ys.toList).zipIdx do
     if !(<-eqBool p q)then return <-oneLt' (fl&&i==0) p q
   return xs.size<ys.size):=rfl
theorem zer{p q:Addr}{o o':Obj}{n n':Nat}{a b:Int}{t u:Tok}{v v':Value}{Q:Bool->Shared->Prop}(ho:s.heap.get? p=some o)(hd:o.data=.seq #[.int a t,v] n)(ho':s.heap.get? q=some o')(hd':o'.data=.seq #[.int b u,v'] n')
   {eq lt:Bool} (he:∀Q:Bool->Shared->Prop,Q eq s->wpAny (model prog w) A (eqBool v v') Q E s) (hl:∀Q:Bool->Shared->Prop,Q lt s->wpAny (model prog w) A (oneLt' false v v') Q E s) (h:Q (if a=b then !eq&&lt else decide (a<b)) s):wpAny (model prog w) A (keyLt' (tuples' true) (.ref p) (.ref q)) Q E s:=by
 rw[zll];refine z5o (qau ho hd ?_);refine z5o (qau ho' hd' ?_);have e0:((#[Value.int a t,v].toList.zip #[Value.int b u,v'].toList).zipIdx)=[((Value.int a t,Value.int b u),0),((v,v'),1)]:=rfl;rw[e0,qag];simp only[bind_assoc];refine z5o (wpAny_eqBool_int ?_);by_cases ab:a=b
 · rw[z55 ab]at h;have e1:(a==b)=true:=by simpa using ab
   rw[e1];simp only[z8d,z50,z61,pure_bind];rw[qag];simp only[bind_assoc];refine z5o (he _ ?_);cases eq
   · simp only[qbk,z7l,bind_assoc,pure_bind,Bool.true_and]at h ⊢;exact z5o (hl _ (z52 h))
   · simp only[z8d,z50,z61,pure_bind,List.forIn_nil,qax]at h ⊢;exact z52 h
 · rw[z6c ab]at h;have e1:(a==b)=false:=by simpa using ab
   rw[e1];simp only[qbk,z7l,bind_assoc,pure_bind];exact z5o (oneLt_int (z52 h))
theorem cmp_ii(hU:∀x,U x->∃p o n a t b u,x.1=.ref p/\s.heap.get? p=some o/\o.data=.seq #[.int a t,.int b u] n/\kc x=[a,b]):Cmp prog w A E s (tuples' true) U (bk kc):=zkq fun x y hx hy E' Q hq=>by
 obtain⟨p,o,n,a,t,b,u,e,ho,hd,k⟩:=hU x hx;obtain⟨p',o',n',a',t',b',u',e',ho',hd',k'⟩:=hU y hy;rw[e,e'];refine zer ho hd ho' hd' (eq:=b==b') (lt:=decide (b<b')) (fun Q h=>wpAny_eqBool_int h) (fun Q h=>zlh h) ?_;have:bk kc x y=(if a=a' then !(b==b')&&decide (b<b')else decide (a<a')):=by
   unfold bk;rw[k,k',<-Bool.decide_coe (if a=a' then _ else _),z7c,z7j,z7j];by_cases h1:a=a'
   · rw[z55 h1];subst h1;simp;omega
   · rw[z6c h1];simp[h1]
 rw[<-this];exact hq
theorem cmp_is(hU:∀x,U x->∃p o n a t b u,x.1=.ref p/\s.heap.get? p=some o/\o.data=.seq #[.int a t,.str b u] n/\kc x=a::nums b):Cmp prog w A E s (tuples' true) U (bk kc):=zkq fun x y hx hy E' Q hq=>by
 obtain⟨p,o,n,a,t,b,u,e,ho,hd,k⟩:=hU x hx;obtain⟨p',o',n',a',t',b',u',e',ho',hd',k'⟩:=hU y hy;rw[e,e'];refine zer ho hd ho' hd' (eq:=decide (b=b')) (lt:=decide (b.cps.toList<b'.cps.toList)) (fun Q h=>wpAny_eqBool_str h) (fun Q h=>zlg h) ?_;have:bk kc x y=(if a=a' then !(decide (b=b'))&&decide (b.cps.toList<b'.cps.toList)else decide (a<a')):=by
   unfold bk;rw[k,k',<-Bool.decide_coe (if a=a' then _ else _),z7c,z7j];by_cases h1:a=a'
   · rw[z55 h1];subst h1;have:(nums b<nums b')↔b.cps.toList<b'.cps.toList:=zoc _ _;simp[this];rintro h2 rfl;exact List.lt_irrefl _ h2
   · rw[z6c h1];simp[h1]
 rw[<-this];exact hq
end
end Srt
namespace Srt
open PySem PyProof.Rows
open Builtin.List (listItems listUpdate)
section
variable {prog:Program}{w:World}{A:Around}{E:zVP}{s:Shared}
def askHeap(h:Heap)(a:Addr)(vs:List Value):Heap:=((h.update a (Obj.mapSeq fun _=>#[])).push (seqObj "tuple" vs.toArray 0)).push (seqObj "list" #[] 0)
end
section
variable {prog:Program}{w:World}{A:Around}{E:zVP}{s:Shared}
def colHeap(h:Heap)(vs:List Value):Heap:=((h.push (seqObj "list" #[] 0)).update h.objs.size (Obj.mapSeq (·++vs.toArray))).push (seqObj "list" vs.toArray 0)
end
theorem zcj(v:Value):firstOfTuple' v=(do
 if(<-typeOf v) != .type "tuple" then return none
 return(<-listItems v)[0]?):=rfl
section
variable {prog:Program}{w:World}{A:Around}{E:zVP}{s:Shared}
def z3y(s:Shared)(v:Value):Prop:=∃p o n a t e,v=.ref p/\s.heap.get? p=some o/\o.cls=.type "tuple"/\o.data=.seq #[.int a t,e] n
theorem zo3{v:Value}(h:z3y s v){Q:Option Value->Shared->Prop}(hq:∀a t,Q (some (.int a t)) s):wpAny (model prog w) A (firstOfTuple' v) Q E s:=by
 obtain⟨p,o,n,a,t,e,rfl,ho,hc,hd⟩:=h;rw[zcj];refine z5o (qbe (T:="tuple") ⟨o,ho,hc⟩ ?_);have:(Value.type "tuple" != Value.type "tuple")=false:=by rfl
 rw[this];simp only[z50,z61];refine z5o (qau ho hd ?_);exact z52 (hq a t)
theorem zaw:∀{vs:List Value},(∀v∈vs,z3y s v)->∀{Q:List (Option Value)->Shared->Prop},(∀fs:List Value,(∀f∈fs,∃a t,f=.int a t)->fs.length=vs.length->Q (fs.map some) s)->wpAny (model prog w) A (vs.mapM firstOfTuple') Q E s
 | [],_,Q,h=>by rw[List.mapM_nil];exact z52 (h [] (fun f hf=>by cases hf) rfl)
 | v::vs,hv,Q,h=>by
   rw[List.mapM_cons];refine z5o (zo3 (hv v (z5z ..)) fun a t=>?_);refine z5o (zaw (fun u hu=>hv u (z5u _ hu)) fun fs hf hl=>?_);refine z52 (h (.int a t::fs) (fun f hf'=>?_) (by simp[hl]));rcases z5y.mp hf' with rfl | hf'
   · exact⟨a,t,rfl⟩
   · exact hf f hf'
theorem zbl:∀{fs:List Value},(∀f∈fs,∃a t,f=.int a t)->fs.mapM typeOf=(pure (fs.map fun _=>Value.type "int"):Sem (List Value))
 | [],_=>by simp
 | f::fs,h=>by obtain⟨a,t,rfl⟩:=h f (z5z ..);rw[List.mapM_cons,zbl fun u hu=>h u (z5u _ hu)];show(pure (Value.type "int") >>= fun b=>pure _ >>= fun bs=>pure (b::bs))=_;simp
theorem keyKind_tup{keys:List Value}(h0:keys≠[])(hf:∀v∈keys,z3y s v):wpAny (model prog w) A (keyKind' keys.toArray) (fun kd s'=>s'=s/\kd=tuples' true) E s:=by
 rw[keyKind'_eq,List.mapM_toArray];simp only[map_eq_pure_bind,bind_assoc,pure_bind];refine z5o (zaw hf fun fs h1 h2=>?_);have e1:(fs.map some).toArray.all (·.isSome)=true:=by simp
 rw[z55 e1];refine z5o (wpAny_rule ?_);have e2:(fs.map some).toArray.filterMap id=fs.toArray:=by simp
 rw[e2,oneTypeOnly'_eq,List.mapM_toArray,zbl h1];cases fs with
 |nil=>exact absurd (List.length_eq_zero_iff.mp h2.symm) h0
 | cons f fs=>
   simp only[map_pure,pure_bind,z5x];have hall:((Value.type "int"::List.map (fun _=>Value.type "int") fs).toArray.all fun x=>x==Value.type "int")=true:=by rw[<-z5x (f:=fun _=>Value.type "int") (a:=f)];simp only[List.all_toArray,List.all_map,z6y];intro _ _;rfl
   have g0:(Value.type "int"::List.map (fun _=>Value.type "int") fs).toArray[0]? = some (Value.type "int"):=by simp
   rw[g0];simp only[hall,z7l,pure_bind];exact z52 ⟨rfl,rfl⟩
theorem keyKind_int{keys:List Value}(h2:2<=keys.length)(hf:∀v∈keys,∃a t,v=.int a t):wpAny (model prog w) A (keyKind' keys.toArray) (fun kd s'=>s'=s/\kd=oneType') E s:=by
 match keys,h2 with
 | v₁::v₂::vs,_=>
   have:∀(l:List Value),(∀v∈l,∃a t,v=.int a t)->∃ns,IntsAre l ns:=by
     intro l
     induction l with
     |nil=>exact fun _=>⟨[],.nil⟩
     | cons v l ih=>
       intro h;obtain⟨a,t,rfl⟩:=h v (z5z ..);obtain⟨ns,hn⟩:=ih fun u hu=>h u (z5u _ hu);exact⟨a::ns,.cons a t hn⟩
   obtain⟨ns,hn⟩:=this _ hf;rw[keyKind_ints hn];exact z52 ⟨rfl,rfl⟩
theorem keyKind_str{keys:List Value}(h2:2<=keys.length)(hf:∀v∈keys,∃a t,v=.str a t):wpAny (model prog w) A (keyKind' keys.toArray) (fun kd s'=>s'=s/\kd=oneType') E s:=by
 match keys,h2 with
 | v₁::v₂::vs,_=>
   rw[keyKind_strs (strsAre_map _ hf)];exact z52 ⟨rfl,rfl⟩
end
end Srt
namespace F
open PySem L2 PySem.Spec PySem.Calls PyProof.Rows PySem.W
open Builtin.List (listItems listUpdate)
def zrp{α:Type}(c:α->List Int)(x:α):List α->List α
 | []=>[x]
 |y::l=>if c y<c x then y::zrp c x l else x::y::l
def jp{α:Type}(c:α->List Int):List α->List α
 | []=>[]
 |x::l=>zrp c x (jp c l)
section
variable {α β:Type}{c:α->List Int}{c':β->List Int}
theorem zdr(x:α):∀l:List α,(zrp c x l).Perm (x::l)
 | []=>z8y _
 | y::l=>by
   unfold zrp;split
   · exact((zdr x l).cons y).trans (List.Perm.swap x y l)
   · exact z8y _
theorem ji:∀l:List α,(jp c l).Perm l
 | []=>z8y _
 |x::l=>(zdr x _).trans ((ji l).cons x)
theorem zop(x:α):∀l:List α,l.Pairwise (fun a b=>¬ c b<c a)->(zrp c x l).Pairwise (fun a b=>¬ c b<c a)
 | [],_=>z8t _ _
 | y::l,h=>by
   obtain⟨h1,h2⟩:=z6v.mp h;unfold zrp;split
   · rename_i hy;refine z6v.mpr ⟨fun z hz=>?_,zop x l h2⟩;rcases z5y.mp ((zdr x l).mem_iff.mp hz)with rfl | hz
     · exact List.lt_asymm hy
     · exact h1 z hz
   · rename_i hy;refine z6v.mpr ⟨fun z hz=>?_,h⟩;rcases z5y.mp hz with rfl | hz
     · exact hy
     · exact z8i.mpr (List.le_trans (z8i.mp hy) (z8i.mp (h1 z hz)))
theorem zdo:∀l:List α,(jp c l).Pairwise (fun a b=>¬ c b<c a)
 | []=>List.Pairwise.nil
 |x::l=>zop x _ (zdo l)
theorem zka(f:α->β)(h:∀a,c' (f a)=c a)(x:α):∀l:List α,zrp c' (f x) (l.map f)=(zrp c x l).map f
 | []=>rfl
 | y::l=>by
   rw[z5x];unfold zrp;rw[h,h];split
   · rw[z5x,zka f h x l]
   · rfl
theorem zam(f:α->β)(h:∀a,c' (f a)=c a):∀l:List α,jp c' (l.map f)=(jp c l).map f
 | []=>rfl
 | x::l=>by rw[z5x];unfold jp;rw[zam f h l,zka f h]
theorem zh5{l out:List α}(hp:out.Perm l)(hs:out.Pairwise (fun a b=>¬ c b<c a))(hd:l.Pairwise (fun a b=>c a≠c b)):out=jp c l:=by
 have hd2:∀a b,a∈l->b∈l->c a=c b->a=b:=by
   clear hp hs
   induction l with
   |nil=>intro a b ha;cases ha
   | cons x l ih=>
     obtain⟨h1,h2⟩:=z6v.mp hd;intro a b ha hb e;rcases z5y.mp ha with ea | ma
     · rcases z5y.mp hb with eb | mb
       · rw[ea,eb]
       · rw[ea]at e;exact absurd e (h1 b mb)
     · rcases z5y.mp hb with eb | mb
       · rw[eb]at e;exact absurd e.symm (h1 a ma)
       · exact ih h2 a b ma mb e
 refine List.Perm.eq_of_pairwise (le:=fun a b=>¬ c b<c a) (fun a b ha hb h1 h2=>?_) hs (zdo l) (hp.trans (ji l).symm);exact hd2 a b (hp.mem_iff.mp ha) ((ji l).mem_iff.mp hb) (qbb (z8i.mp h1) (z8i.mp h2))
end
def zes:D->List Int
 | .int n=>[n]
 | .str z=>Srt.nums z
 | .tup [.int a,.int b]=>[a,b]
 | .tup [.int a,.str z]=>a::Srt.nums z
 |_=>[]
def zfk:D->Nat
 | .int _=>0
 | .str _=>1
 | .tup [.int _,.int _]=>2
 | .tup [.int _,.str _]=>3
 |_=>4
theorem zis{d:D}(h:zfk d<4):(∃n,d=.int n)\/(∃z,d=.str z)\/(∃a b,d=.tup [.int a,.int b])\/(∃a z,d=.tup [.int a,.str z]):=by
 unfold zfk at h;split at h
 · exact .inl ⟨_,rfl⟩
 · exact .inr (.inl ⟨_,rfl⟩)
 · exact .inr (.inr (.inl ⟨_,_,rfl⟩))
 · exact .inr (.inr (.inr ⟨_,_,rfl⟩))
 · exact absurd h (by decide)
def zw2:Value->List Int
 | .int n _=>[n]
 | .str z _=>Srt.nums z
 |_=>[]
def zco(h:Heap):Value->List Int
 | .ref p=>(match h.get? p with
   | some o=>(match o.data with
     | .seq its _=>its.toList.flatMap zw2
     |_=>[])
   |none=>[])
 |v=>zw2 v
def zez(h:Heap):Nat->Value->List Int->Prop
 |0,u,c=>∃n t,u=.int n t/\c=[n]
 |1,u,c=>∃z t,u=.str z t/\c=Srt.nums z
 |2,u,c=>∃p o n a t b t',u=.ref p/\h.get? p=some o/\o.cls=.type "tuple"/\o.data=.seq #[.int a t,.int b t'] n/\c=[a,b]
 |3,u,c=>∃p o n a t b t',u=.ref p/\h.get? p=some o/\o.cls=.type "tuple"/\o.data=.seq #[.int a t,.str b t'] n/\c=a::Srt.nums b
 |_,_,_=>False
theorem zm1{h:Heap}{n:Nat}{u:Value}{c:List Int}(q:zez h n u c):zco h u=c:=by
 match n,q with
 |0,q=>obtain⟨n,t,e,f⟩:=q;subst e f;rfl
 |1,q=>obtain⟨n,t,e,f⟩:=q;subst e f;rfl
 | 2,q=>
   obtain⟨p,o,n,a,t,b,t',e,ho,_,hd,f⟩:=q;subst e f;simp only[zco,ho,hd];rfl
 | 3,q=>
   obtain⟨p,o,n,a,t,b,t',e,ho,_,hd,f⟩:=q;subst e f;simp[zco,ho,hd,zw2]
 |n+4,q=>exact False.elim q
section
variable {X:Cx}{pins:zAO}{σ:L2.St}{H:Hp}{s:Shared}{ρ:List Addr}
theorem zqv{d:D}{v:V}{u:Value}(I:Inv X pins σ H s)(hk:zfk d<4)(r:Rep X.K X.mg ρ H d v)(q:RelV v u):zez s.heap (zfk d) u (zes d):=by
 rcases zis hk with⟨n,rfl⟩ | ⟨z,rfl⟩ | ⟨a,b,rfl⟩ | ⟨a,z,rfl⟩
 · unfold Rep at r;subst r;obtain⟨t,rfl⟩:=q;exact⟨n,t,rfl,rfl⟩
 · unfold Rep at r;subst r;obtain⟨t,rfl⟩:=q;exact⟨z,t,rfl,rfl⟩
 · unfold Rep at r;obtain⟨p,vs,rfl,ht,rl⟩:=r;obtain rfl:u=Value.ref p:=q;simp only[RepL,Rep]at rl;obtain⟨v1,r1,rfl,rfl,v2,r2,rfl,rfl,rfl⟩:=rl;obtain⟨its,rv,⟨o,e,c,n,dd⟩,_⟩:=I.tuple ht.sq;cases rv with
   | cons q1 rv=>
     cases rv with
     | cons q2 rv=>
       cases rv;obtain⟨t1,rfl⟩:=q1;obtain⟨t2,rfl⟩:=q2;exact⟨p,o,n,a,t1,b,t2,rfl,e,c,dd,rfl⟩
 · unfold Rep at r;obtain⟨p,vs,rfl,ht,rl⟩:=r;obtain rfl:u=Value.ref p:=q;simp only[RepL,Rep]at rl;obtain⟨v1,r1,rfl,rfl,v2,r2,rfl,rfl,rfl⟩:=rl;obtain⟨its,rv,⟨o,e,c,n,dd⟩,_⟩:=I.tuple ht.sq;cases rv with
   | cons q1 rv=>
     cases rv with
     | cons q2 rv=>
       cases rv;obtain⟨t1,rfl⟩:=q1;obtain⟨t2,rfl⟩:=q2;exact⟨p,o,n,a,t1,z,t2,rfl,e,c,dd,rfl⟩
theorem zs4(I:Inv X pins σ H s){n:Nat}(hn:n<4):∀{kd:List D}{ws:List V}{ks:List Value},RepL X.K X.mg ρ H kd ws->Vals ws ks->(∀d∈kd,zfk d=n)->(∀v∈ks,zez s.heap n v (zco s.heap v))/\ks.map (zco s.heap)=kd.map zes
 | [],_,_,r,q,_=>by unfold RepL at r;subst r;cases q;exact⟨fun v hv=>(by cases hv),rfl⟩
 | d::kd,_,_,r,q,hk=>by
   unfold RepL at r;obtain⟨v,vs,rfl,r1,r2⟩:=r;cases q with
   | cons q1 q2=>
     rename_i u us;obtain⟨h1,h2⟩:=zs4 I hn r2 q2 fun d hd=>hk d (z5u _ hd);have e:=hk d z5z;have sh:=zqv I (by rw[e];exact hn) r1 q1;rw[e]at sh;have ev:=zm1 sh;refine⟨fun v hv=>?_,by rw[z5x,z5x,h2,ev]⟩;rcases z5y.mp hv with z | z
     · rw[z,ev];exact sh
     · exact h1 v z
end
section
variable {prog:Program}{w:World}{A:Around}{E:zVP}{s:Shared}{U:Keyed->Prop}{kc:Keyed->List Int}
theorem zm2{n:Nat}(hn:n<4)(hU:∀x,U x->zez s.heap n x.1 (kc x)):∃kd,Srt.Cmp prog w A E s kd U (Srt.bk kc)/\∀keys:List Value,2<=keys.length->(∀v∈keys,∃c,zez s.heap n v c)->wpAny (model prog w) A (keyKind' keys.toArray) (fun kd' s'=>s'=s/\kd'=kd) E s:=by
 match n,hn,hU with
 |0,_,hU=>exact⟨_,Srt.cmp_int hU,fun keys h2 hf=>Srt.keyKind_int h2 fun v hv=>let⟨c,a,t,e,_⟩:=hf v hv;⟨a,t,e⟩⟩
 |1,_,hU=>exact⟨_,Srt.cmp_str hU,fun keys h2 hf=>Srt.keyKind_str h2 fun v hv=>let⟨c,a,t,e,_⟩:=hf v hv;⟨a,t,e⟩⟩
 |2,_,hU=>exact⟨_,Srt.cmp_ii fun x hx=>let⟨p,o,n,a,t,b,u,e,ho,_,hd,k⟩:=hU x hx;⟨p,o,n,a,t,b,u,e,ho,hd,k⟩,fun keys h2 hf=>Srt.keyKind_tup (fun z=>by rw[z]at h2;exact absurd h2 (by decide)) fun v hv=>let⟨c,p,o,n,a,t,b,u,e,ho,hc,hd,_⟩:=hf v hv;⟨p,o,n,a,t,.int b u,e,ho,hc,hd⟩⟩
 |3,_,hU=>exact⟨_,Srt.cmp_is fun x hx=>let⟨p,o,n,a,t,b,u,e,ho,_,hd,k⟩:=hU x hx;⟨p,o,n,a,t,b,u,e,ho,hd,k⟩,fun keys h2 hf=>Srt.keyKind_tup (fun z=>by rw[z]at h2;exact absurd h2 (by decide)) fun v hv=>let⟨c,p,o,n,a,t,b,u,e,ho,hc,hd,_⟩:=hf v hv;⟨p,o,n,a,t,.str b u,e,ho,hc,hd⟩⟩
end
section
variable {X:Cx}{pins:zAO}{σ:L2.St}{H:Hp}{s:Shared}{ρ:List Addr}{k:Nat}{t:LT}{g:G}{cl:zLA}{is:List Nat}{kv:List D}{ev:Ev}{a c:Addr}{pm ct:Value}{S S':Sto}
def zzm(g:G)(n:Nat)(kv:List D):List D->Sto->Option (List D×Sto)
 | [],S=>some ([],S)
 |d::ds,S=>if(noCL [d]&&noCL kv&&zff S)=true/\n=1 then (g ([d]++kv) S).bind fun p=>if(noC p.1&&zff p.2)=true then (zzm g n kv ds p.2).map fun q=>(p.1::q.1,q.2)else none else none
end
def kn(ks:List D):Nat:=zfk (ks.headD (.int 0))
def zk6(ks ds:List D):Option (List D):=if kn ks<4/\(∀d∈ks,zfk d=kn ks)/\(ks.map zes).Pairwise (·≠·)then some ((jp (fun p:List Int×D=>p.1) ((ks.map zes).zip ds)).map (·.2))else none
def z4j(f:E)(g:G)(j:Nat)(y:Str)(t:LT)(is:List Nat):E:=fun ev S=>(f ev S).bind fun p=>(z1k p.2 p.1).bind fun ds=>match p.2[j]? with
 |some (.tab y' u)=>if y'=y/\u=t.qual/\ds.length<=100000 then (zpx ev is).bind fun kv=>(zzm g t.params.args.length kv ds p.2).bind fun q=>(zk6 q.1 ds).map fun r=>(.lst r,q.2)else none
 |_=>none
theorem zyb{K mg ρ H S x ds v}(hS:StOk K mg ρ H S)(r:Rep K mg ρ H x v)(e:z1k S x=some ds):∃l vs,v=.ref l/\SqL K H l vs/\RepL K mg ρ H ds vs:=by
 cases x with
 | lst xs=>
   cases e;unfold Rep at r;obtain⟨p,vs,rfl,t,rl⟩:=r;exact⟨p,vs,rfl,t.sq,rl⟩
 | obj i=>
   unfold Rep at r;obtain⟨a,rfl,ha⟩:=r;have e:(match S[i]? with | some (.lst ds)=>some ds | _=>none)=some ds:=e;split at e
   · rename_i ds' hd;cases e;obtain⟨b,hb,vs,h1,h2⟩:=hS.adr hd;rw[ha]at hb;cases hb;exact⟨a,vs,rfl,.inl (.inl h1),h2⟩
   · cases e
 |_=>cases e
theorem zsc{h:Heap}{vs:List Value}{b:Addr}{o:Obj}(e:h.get? b=some o):(Srt.colHeap h vs).get? b=some o:=by unfold Srt.colHeap;refine z5t _ ?_;rw[qak _ _ _ _ (z56 (z58 e))];exact z5t _ e
theorem zsq{h:Heap}{a:Addr}{vs:List Value}{b:Addr}{o:Obj}(ne:b≠a)(e:h.get? b=some o):(Srt.askHeap h a vs).get? b=some o:=by unfold Srt.askHeap;refine z5t _ (z5t _ ?_);rw[qak _ _ _ _ ne];exact e
theorem zxl{α β γ δ:Type}:∀(ks:List α) (is:List β) (vs:List γ) (ds:List δ),ks.length=is.length->is.length=vs.length->vs.length=ds.length->(ks.zip (is.zip (vs.zip ds))).map (fun z=>(z.1,z.2.1))=ks.zip is
 | [],_,_,_,_,_,_=>by simp
 |k::ks,[],_,_,h,_,_=>by cases h
 |k::ks,i::is,[],_,_,h,_=>by cases h
 |k::ks,i::is,v::vs,[],_,_,h=>by cases h
 | k::ks,i::is,v::vs,d::ds,h1,h2,h3=>by simp only[List.zip_cons_cons,z5x];rw[zxl ks is vs ds (z9o h1) (z9o h2) (z9o h3)]
theorem zxk{α β γ δ ε:Type}(f:α->ε):∀(ks:List α) (is:List β) (vs:List γ) (ds:List δ),ks.length=is.length->is.length=vs.length->vs.length=ds.length->(ks.zip (is.zip (vs.zip ds))).map (fun z=>(f z.1,z.2.2.2))=(ks.map f).zip ds
 | [],_,_,_,_,_,_=>by simp
 |k::ks,[],_,_,h,_,_=>by cases h
 |k::ks,i::is,[],_,_,h,_=>by cases h
 |k::ks,i::is,v::vs,[],_,_,h=>by cases h
 | k::ks,i::is,v::vs,d::ds,h1,h2,h3=>by simp only[List.zip_cons_cons,z5x];rw[zxk f ks is vs ds (z9o h1) (z9o h2) (z9o h3)]
theorem zmc{K mg ρ H}:∀{ds:List D}{vs:List V}{us:List Value},RepL K mg ρ H ds vs->Vals vs us->∀z∈us.zip (vs.zip ds),RelV z.2.1 z.1/\Rep K mg ρ H z.2.2 z.2.1
 | [],_,_,r,q,z,hz=>by unfold RepL at r;subst r;cases q;cases hz
 | d::ds,_,_,r,q,z,hz=>by
   unfold RepL at r;obtain⟨v,vs,rfl,r1,r2⟩:=r;cases q with
   | cons q1 q2=>
     rcases z5y.mp hz with rfl | hz
     · exact⟨q1,r1⟩
     · exact zmc r2 q2 z hz
theorem zje{α:Type}{f:α->V}{g:α->Value}:∀{l:List α},(∀z∈l,RelV (f z) (g z))->Vals (l.map f) (l.map g)
 | [],_=>.nil
 |z::l,h=>.cons (h z z5z) (zje fun y hy=>h y (z5u _ hy))
theorem zjq{K mg ρ H}{α:Type}{f:α->D}{g:α->V}:∀{l:List α},(∀z∈l,Rep K mg ρ H (f z) (g z))->RepL K mg ρ H (l.map f) (l.map g)
 | [],_=>RepL.nil
 |z::l,h=>RepL.cons (h z z5z) (zjq fun y hy=>h y (z5u _ hy))
theorem zi5:bootBuiltins "sorted"=some (.builtin "sorted"):=by with_unfolding_all rfl
end F
namespace F
open PySem L2 PySem.Spec PyProof.Rows
def RA(X:Cx)(es:List Expr)(r:R):Prop:=∀(pos:Pos) (pins:zAO) (s:Shared) (σ:L2.St) (H:Hp) (E:XK) (Q:List Value->Shared->Prop),XE X pins σ E->Inv X pins σ H s->tR X.K X.mg r σ H E->wpAny (model X.prog X.w) X.A (spliced (backTo pos (starEach es X.env))) Q X.xe s
section
variable {X:Cx}{k:Nat}{x:Str}{g:G}{e:Expr}{es:List Expr}{f:E}{r:R}{p pos:Pos}
theorem zic(he:RE X e r)(hst:starEach (e::es) X.env=(false,eval e X.env)::starEach es X.env:=by exact qd rfl):RA X (e::es) r:=by intro pos pins s σ H E Q hx I t;rw[hst];show wpAny _ _ (spliced ((false,eval e X.env)::backTo pos (starEach es X.env))) _ _ s;exact Calls.spliced_cons (he pins s σ H E _ hx I t)
theorem zfb(cal:Cal X.prog X.w X.K X.mg X.base k x g)(hr:RA X (e::es) r)(hg:Gl X x:=by rfl)(hdb:(x==("__debug__":Str))=false:=by decide)
   (he:starEach (e::es) X.env=(false,eval e X.env)::starEach es X.env:=by exact qd rfl) (hpl:(backTo pos (starEach es X.env)).any (·.1)=false:=by exact qv rfl) :
   RE X (.Call (.Name x p) (e::es) [] pos) r:=by
 obtain⟨f,fd,ps,ds,dvs,dds,gg,F,hm,hk,hb,hd,hdd,hgg⟩:=cal.ex;intro pins s σ H E Q hx I t;refine z7y (y9 I hg hm ?_ hdb);exact z80 (h₀:=X.base) I.ok.mod.kin hk (hr pos pins s σ H E _ hx I t) he hpl
end
end F
namespace F
open PySem L2 PySem.Spec PySem.Calls PyProof.Rows PySem.W
abbrev Src:=Ev->Sto->Option ((List D×Option Nat)×Sto)
def okG(us:List D):Option Nat->Sto->Prop
 |none,_=>True
 |some a,S=>S[a]? = some (.lst us)
def zat(us:List D)(o:Option Nat)(c:B)(g:E)(fr:Ev):List D->Sto->Option (List D×Sto):=match o with
 |none=>zd9 c g fr
 |some a=>yx a us c g fr
section
variable {us:List D}{o:Option Nat}{c:B}{g:E}{fr:Ev}
theorem zsb{ds:List D}{S:Sto}{r:List D×Sto}(h:zat us o c g fr ds S=some r):okG us o S:=by
 cases o with
 |none=>trivial
 |some a=>exact zpu h
theorem zpt{S:Sto}(h:okG us o S):zat us o c g fr [] S=some ([],S):=by
 cases o with
 |none=>rfl
 |some a=>exact zlu (c:=c) (g:=g) (fr:=fr) h
theorem zlt{d:D}{ds:List D}{S:Sto}(h:okG us o S):zat us o c g fr (d::ds) S=(c (some d::fr) S).bind fun p=>if p.1=true then (g (some d::fr) p.2).bind fun q=>(zat us o c g fr ds q.2).bind fun r=>some (q.1::r.1,r.2)else zat us o c g fr ds p.2:=by
 cases o with
 |none=>rfl
 |some a=>exact ziz h
end
def zsw(K:Frag)(mg:zMg)(J:It)(us:List D)(o:Option Nat)(ρ1:List Addr)(H1:Hp):Prop:=∀ρ' H' S',Ext ρ1 H1 ρ' H'->StOk K mg ρ' H' S'->okG us o S' ->
 (∀i d,us[i]? = some d->J.go i H'/\∀xv H5,J.yld i H' xv H5->H5=H'/\Rep K mg ρ' H' d xv)/\∀i,us.length<=i->J.stop i H'
def wiS(X:Cx)(f:Src):TI:=fun σ H R=>∃ρ ev S us o S1,EnvR X.K X.mg ρ H ev σ/\StOk X.K X.mg ρ H S/\f ev S=some ((us,o),S1)/\∀J ρ1 H1,Ext ρ H ρ1 H1->StOk X.K X.mg ρ1 H1 S1->zsw X.K X.mg J us o ρ1 H1->(∀pins σ s,Inv X pins σ H1 s->us.length<=sizeLine)->R J H1
def zug(X:Cx)(tg l:Expr)(f:Src):Prop:=PI X tg l (wiS X f)
def z1h(X X':Cx)(us:List D)(o:Option Nat)(cn:B)(g:E)(fre:Ev)(t:L2.St)(fp:List Addr)(tn:Nat->Heap->Prop)(Dl:Addr)(ρ1:List Addr)(H2:Hp)(ds:List D)(Sf:Sto)(m:Nat)(st:Shared):Prop :=
 ∃(i:Nat) (ρ':List Addr) (H':Hp) (ys:List V) (its:List Value) (acc rest:List D) (Si:Sto) (w:Option V),m=us.length-i/\i<=us.length/\Inv X' [] (w::t) H' st/\tn i st.heap/\(∀b∈fp,H' b=none)/\H' Dl=none/\st.heap.PlainList Dl (List.toArray its)/\Vals ys its /\
   Ext ρ1 H2 ρ' H'/\StOk X.K X.mg ρ' H' Si/\RepL X.K X.mg ρ' H' acc ys/\acc.length<=i/\zat us o cn g fre (us.drop i) Si=some (rest,Sf)/\ds=acc++rest
section
variable {X:Cx}{pins:zAO}{σ:L2.St}{H H2:Hp}{s s2:Shared}{scope:Scope}{x:Str}{N':List Str}{fr:List Nat}{fp:List Addr}{ρ ρ1:List Addr}{ds us:List D}{S S1 S2:Sto}{o:Option Nat}
def Fin(X:Cx)(s2:Shared)(H2:Hp)(fp:List Addr)(ρ1:List Addr)(ds:List D)(S2:Sto)(use:Option (Value->Sem Unit))(Q:zVP):Prop :=
 ∀(Dl C:Addr) (s4:Shared) (H':Hp) (ρ':List Addr) (mm:zMg) (ys:List V) (its:List Value) (nn:Nat),s2.heap.objs.size<=Dl->Dl<=C->Dl≠C->s4.heap.Ns C mm->H' C=none->Un (frs X.stack) fp H2 H' s2.heap s4.heap->HOk X.prog X.w H' s4.heap->s4.os=s2.os->AllBare s4.gens ->
   s4.heap.get? Dl=some { cls:=.type "list",data:=.seq (List.toArray its) nn }->H' Dl=none->Vals ys its->RepL X.K X.mg ρ' H' ds ys->ys.length<=sizeLine->Ext ρ1 H2 ρ' H'->StOk X.K X.mg ρ' H' S2->compPost (model X.prog X.w) X.A X.xe use Q (.ref Dl) C (.ok .next) s4
theorem zhf{elt l:Expr}{ifs:List Expr}{px pos:Pos}{g:E}{cn:B}{ev:Ev}{J:It}{it:Addr}{tn:Nat->Heap->Prop}{use:Option (Value->Sem Unit)}{Q:zVP}(c:CompOk X scope x N' fr)(hc:X.calm=true)
   (hif:∀C,FT (jt X (x::N') scope s2 H2 C fp) ifs cn) (helt:∀C,FE (jt X (x::N') scope s2 H2 C fp) elt g)
   (I2:Inv X pins σ H2 s2) (T:Turn X.prog X.w X.K (.Name x px) J fp it tn) (st2:tn 0 s2.heap) (f2:∀b∈fp,zmb X pins H2 b) (hE1:EnvR X.K X.mg ρ1 H2 ev σ) (hS1:StOk X.K X.mg ρ1 H2 S1) (src:zsw X.K X.mg J us o ρ1 H2) (hz0:us.length<=sizeLine)
   (q2:zat us o cn g (fr.map (zha ev)) us S1=some (ds,S2)) (fin:Fin X s2 H2 fp ρ1 ds S2 use Q) :
   wpAny (model X.prog X.w) X.A (newList []) (fun acc s₃=>wpAny (model X.prog X.w) X.A (newFunctionEnv scope X.env.globals (zhh X.env.cells scope.names []) [] X.env.qual none .none (some X.env)) (fun cenv s₄=>
       codeAny (model X.prog X.w) X.A (.compStart (.ListComp elt [⟨.Name x px,l,ifs,0⟩] scope pos) 0 (.ref it) acc { cenv with scope:=relabel scope X.env }) (compPost (model X.prog X.w) X.A X.xe use Q acc cenv.locals) s₄) X.xe s₃) X.xe s2:=by
 have hcell:∀y∈scope.names,y.2≠.cell:=fun y hy=>(c.chk y hy).1;refine z88 (wpAny_newFunctionEnv hcell (by intro y hy;simp at hy) (fun h₁ hns₁ hsb₁=>?_) c.kind);dsimp only at hns₁ hsb₁ ⊢;generalize hH2:s2.heap.push { cls:=.type "list",dict:=none,data:=.seq ([]:List Value).toArray }=G2 at hns₁ hsb₁ ⊢;have hC:G2.objs.size=s2.heap.objs.size+1:=by rw[<-hH2,Heap.size_push]
 have hDC:s2.heap.objs.size≠G2.objs.size:=by rw[hC];exact z56 (z99 _)
 have hCle:s2.heap.objs.size<=G2.objs.size:=by rw[hC];exact qbm _
 have old:∀b o,s2.heap.get? b=some o->h₁.get? b=some o:=fun b o e=>hsb₁.extBut b o (by rw[hC];exact z56 (qa8 (z58 e))) (z5t _ (hH2▸z5t _ e));have hacc:h₁.PlainList s2.heap.objs.size #[]:=⟨_,hsb₁.extBut _ _ hDC (z5t _ (hH2▸z6o _ rfl))⟩
 generalize hDl:s2.heap.objs.size=Dl at hDC hCle hacc;generalize hCC:G2.objs.size=C at hDC hCle hns₁ hsb₁ hC ⊢;have hfl:∀b∈fp,b<Dl:=fun b hb=>by obtain⟨o,e,_⟩:=T.obj 0 _ st2 b hb;rw[<-hDl];exact z58 e
 have hHD:H2 Dl=none:=I2.hok.fresh (by rw[hDl];exact z5p _);have hDfs:Dl∉frs X.stack:=fun z=>by
   have z':=I2.stkFree Dl z;rcases z5y.mp (I2.stkSub Dl z)with e | e
   · have:=I2.lt;rw[hDl,<-e]at this;exact z72 _ this
   · exact I2.nofs (by rw[hDl];exact z5p _) e
 generalize hX':jt X (x::N') scope s2 H2 C fp=X';have I3:Inv X' [] (none::fr.map (zf8 σ)) H2 { s2 with heap:=h₁,toks:=s2.toks+([]:List (Str×Value)).length }:=hX'▸c.start I2 f2 (by rw[hDl];exact hfl) (by rw[hDl];exact hCle) old hns₁;have hEf:EnvR X.K X.mg ρ1 H2 (none::fr.map (zha ev)) (none::fr.map (zf8 σ)):=by
   refine⟨by simp,fun i d q=>?_⟩;cases i with
   |zero=>simp at q
   | succ i=>
     have q:(fr.map (zha ev))[i]? = some (some d):=by simpa using q
     rw[z6u]at q;cases ej:fr[i]? with
     |none=>rw[ej]at q;cases q
     | some jj=>
       rw[ej]at q;have q:zha ev jj=some d:=by simpa using q
       have hv:ev[jj]? = some (some d):=by
         unfold zha at q;split at q
         · rename_i o ho;rw[ho,q]
         · cases q
       obtain⟨v,e1,r⟩:=hE1.at_ jj d hv;refine⟨v,?_,r⟩;show(fr.map (zf8 σ))[i]? = some (some v);rw[z6u,ej];show some (zf8 σ jj)=_;unfold zf8;rw[e1]
 have eA:X'.A=X.A:=by rw[<-hX'];rfl
 have eP:X'.prog=X.prog:=by rw[<-hX'];rfl
 have eW:X'.w=X.w:=by rw[<-hX'];rfl
 have eK:X'.K=X.K:=by rw[<-hX'];rfl
 have eM:X'.mg=X.mg:=by rw[<-hX'];rfl
 have eEx:X'.ex=fp:=by rw[<-hX'];rfl
 have eS0:X'.s₀=s2:=by rw[<-hX'];rfl
 have eH0:X'.H₀=H2:=by rw[<-hX'];rfl
 have eFs:X'.fs=frs X.stack:=by rw[<-hX'];rfl
 have eL:X'.env.locals=C:=by rw[<-hX'];rfl
 have ePn:X'.pn=[]:=by rw[<-hX'];rfl
 have eEnv:X'.env=compEnvC scope (zhh X.env.cells scope.names []) C X.env:=by rw[<-hX'];rfl
 have eCalm:X'.calm=true:=by rw[<-hX'];exact hc
 have eXe:X'.xe=fun _ _=>False:=by rw[<-hX'];rfl
 have pgx:PG X' (.Name x px) (zg5 0):=by rw[<-hX'];exact zfd c.nd rfl (.inl (lookup_relabel_local c.hx)) (.inr (lookup_relabel_local c.hx))
 have fel:FE X' elt g:=hX'▸helt C;have ftl:FT X' ifs cn:=hX'▸hif C;have cellLt:∀y a,X'.env.cells.lookup y=some a->a<Dl:=fun y a e=>by rw[eEnv]at e;obtain⟨v,q⟩:=I2.cell y a (zc0 (fun _ _ h=>by cases h) y a e);rw[<-hDl];exact q.lt
 have stat:∀{H':Hp}{pl:zAO},(∀b∈fp,H' b=none)->(∀p∈pl,∀b∈fp,p.1≠b)->∀b∈fp,zmb X' pl H' b:=fun {H' pl} hn hp b hb=>
   ⟨hn b hb,by rw[eL];exact z56 (z5q (hfl b hb) hCle),by rw[eFs];intro z;rcases z5y.mp (I2.stkSub b z)with e | e;exact(f2 b hb).2.1 e;exact(f2 b hb).2.2.1 e,.inl (by rw[eEx];exact hb),fun y a e=>by
     rw[eEnv]at e;exact(f2 b hb).2.2.2.2.1 y a (zc0 (fun _ _ h=>by cases h) y a e),fun p hpp=>hp p (by rw[ePn]at hpp;simpa using hpp) b hb⟩
 have loop:∀s₃:Shared,s₃={ s2 with heap:=h₁,toks:=s2.toks+([]:List (Str×Value)).length } ->
     codeAny (model X.prog X.w) X.A (.compLoop (.ListComp elt [⟨.Name x px,l,ifs,0⟩] scope pos) 0 (.ref it) (.ref Dl) (compEnvC scope (zhh X.env.cells scope.names []) C X.env))
       (compPost (model X.prog X.w) X.A X.xe use Q (.ref Dl) C) s₃:=by
   rintro s₃ rfl;refine codeAny_compLoop_tests (z1h X X' us o cn g (fr.map (zha ev)) (fr.map (zf8 σ)) fp tn Dl ρ1 H2 ds S2) ?_ (us.length-0)
     ⟨0,ρ1,H2,[],[],[],ds,S1,none,rfl,z66 _,I3,T.keep _ _ _ st2 (fun b hb o e=>old b o e),fun b hb=>(f2 b hb).1,hHD,hacc,.nil,Ext.refl _ _,hS1,RepL.nil,z5p _,q2,rfl⟩
   intro m st hI;generalize notedBy (model X.prog X.w) X.A (compEnvC scope (zhh X.env.cells scope.names []) C X.env) (fun e s'=>compPost (model X.prog X.w) X.A X.xe use Q (.ref Dl) C (.error e) s')=EE;obtain⟨i,ρ',H',ys,its,acc,rest,Si,w,rfl,hi,I',tni,hfp',hD',⟨nn,hpl⟩,rv,E',hSi,ra,hal,hcl,hds⟩:=hI;have Ip:Inv X' [(Dl,{ cls:=.type "list",data:=.seq (List.toArray its) nn })] (w::fr.map (zf8 σ)) H' st:=I'.pins_of fun p hp=>by rw[z6a.mp hp];exact⟨hpl,hD',by rw[eL];exact hDC,by rw[eFs];exact hDfs,fun v z=>by cases z⟩
   have hnp:∀p∈[(Dl,({ cls:=.type "list",data:=.seq (List.toArray its) nn }:Obj))],∀b∈fp,p.1≠b:=fun p hp b hb=>by rw[z6a.mp hp];exact z7s (z56 (hfl b hb))
   have gk:=zsb hcl;obtain⟨srcI,srcE⟩:=src ρ' H' Si E' hSi gk;by_cases hlt:i<us.length
   · rw[z60 hlt,zlt gk]at hcl;obtain⟨⟨ok,Sc⟩,qc,hcl⟩:=zw hcl;obtain⟨go,yl⟩:=srcI i _ (z5v hlt);have ti:=T.item X' eP eW eK eCalm i [(Dl,{ cls:=.type "list",data:=.seq (List.toArray its) nn })] st (w::fr.map (zf8 σ)) H' EE Ip (stat hfp' hnp) tni go;rw[eA]at ti;refine thn ti fun r s4 ⟨u,hr,h4⟩=>?_;subst hr;dsimp only;show wpAny (model X.prog X.w) X.A (letOwnedTupleGo (.Name x px) (.ref it) u >>= fun _=>assign (.Name x px) (compEnvC scope (zhh X.env.cells scope.names []) C X.env) u) _ _ _;refine z5o (thn h4 fun _ s5 ⟨xv,H5,I5,r5,y5,tn5,fp5⟩=>?_);obtain⟨eH5,rx0⟩:=yl _ _ y5;subst eH5;have I5':=I5.pinned (stat fp5 hnp) (T.obj _ _ tn5);have as5:=pgx _ s5 _ H5 _ u (fun σ' H'=>H'=H5/\σ'=(w::fr.map (zf8 σ)).set 0 (some xv)) I5' r5 ⟨rfl,rfl⟩;rw[eP,eW,eA,eEnv,eXe]at as5;refine z73 as5 (fun _ s6 ⟨σ6,H6,I6,eH6,eσ6⟩=>?_) (fun _ _ z=>False.elim z);subst eH6 eσ6;have hE6:EnvR X.K X.mg ρ' H6 (some us[i]::fr.map (zha ev)) (some xv::fr.map (zf8 σ)):=(hEf.mono E').set (i:=0) rx0;have tc6:=zzz ftl (Q:=fun b H7=>b=ok/\∃ρ7,Ext ρ' H6 ρ7 H7/\StOk X.K X.mg ρ7 H7 Sc) I6 ⟨ρ',_,Si,ok,Sc,by rw[eK,eM];exact hE6,by rw[eK,eM];exact hSi,qc,fun ρ7 H7 E7 hS7=>⟨rfl,ρ7,E7,by rw[eK,eM]at hS7;exact hS7⟩⟩;rw[eP,eW,eA,eEnv,eXe]at tc6;refine z73 tc6 (fun ok' s6 ⟨H6,I6,eok,ρ6,E6,hS6⟩=>?_) (fun _ _ z=>False.elim z);subst eok;have hE6:=hE6.mono E6;have hpin6:=I6.pin (Dl,{ cls:=.type "list",data:=.seq (List.toArray its) nn }) (z57 _ (z6w _ (z6a.mpr rfl)));cases ok' with
     | false=>
       have hcl:zat us o cn g (fr.map (zha ev)) (us.drop (i+1)) Sc=some (rest,S2):=hcl;rw[z6c z7a];have I8:Inv X' [] (some xv::fr.map (zf8 σ)) H6 s6:=I6.pins_of fun p hp=>by cases hp
       have tn8:tn (i+1) s6.heap:=T.keep _ _ _ tn5 fun b hb o e=>(I6.pin (b,o) (z57 _ (z57 _ (x5 hb e)))).1;refine⟨us.length-(i+1),by omega,i+1,ρ6,H6,ys,its,acc,rest,Sc,_,rfl,by omega,I8,tn8,fun b hb=>?_,hpin6.2.1,⟨nn,hpin6.1⟩,rv,E'.trans E6,hS6,ra.mono E6,by omega,hcl,hds⟩;obtain⟨o,e,dd⟩:=T.obj _ _ tn5 b hb;exact(I6.pin (b,o) (z57 _ (z57 _ (x5 hb e)))).2.1
     | true=>
       rw[z55 rfl];have hcl:(g (some us[i]::fr.map (zha ev)) Sc).bind (fun q=>(zat us o cn g (fr.map (zha ev)) (us.drop (i+1)) q.2).bind fun r=>some (q.1::r.1,r.2))=some (rest,S2):=hcl;obtain⟨⟨yv,Sn⟩,qe,hcl⟩:=zw hcl;obtain⟨⟨rest',Se⟩,qr,hcl⟩:=zw hcl;cases hcl;have el6:=fel _ s6 _ H6 (fun v H7=>∃ρ7,Ext ρ6 H6 ρ7 H7/\StOk X.K X.mg ρ7 H7 Sn/\Rep X.K X.mg ρ7 H7 yv v) I6 ⟨ρ6,_,Sc,yv,Sn,by rw[eK,eM];exact hE6,by rw[eK,eM];exact hS6,qe,fun v ρ7 H7 E7 hS7 r7=>⟨ρ7,E7,by rw[eK,eM]at hS7;exact hS7,by rw[eK,eM]at r7;exact r7⟩⟩;rw[eP,eW,eA,eEnv,eXe]at el6;refine z73 el6 (fun u7 s7 ⟨v7,H7,I7,r7,ρ7,E7,hS7,rp7⟩=>?_) (fun _ _ z=>False.elim z);have hpin:=I7.pin (Dl,{ cls:=.type "list",data:=.seq (List.toArray its) nn }) (z57 _ (z6w _ (z6a.mpr rfl)));have hvl:=rv.length;have hral:=ra.length;refine wpAny_list_append_plain ⟨nn,hpin.1⟩ (fun h8 hp8 hsb8=>?_) (by rw[z6d];omega);have I8:Inv X' [] (some xv::fr.map (zf8 σ)) H7 { s7 with heap:=h8 }:=by
         have I7':Inv X' [] (some xv::fr.map (zf8 σ)) H7 s7:=I7.pins_of fun p hp=>by cases hp
         exact I7'.turned (it:=Dl) (t':=s7.toks) (fun b o hb e=>(hsb8.2 b hb).trans e) hpin.2.1 (by rw[eL];exact hDC) (.inr (by rw[eS0,hDl];exact z5p _)) (fun y a e=>z56 (cellLt y a e)) (fun p hp=>by rw[ePn]at hp;cases hp)
       have tn8:tn (i+1) h8:=T.keep _ _ _ tn5 fun b hb o e=>by have:=(I7.pin (b,o) (z57 _ (z57 _ (x5 hb e)))).1;exact(hsb8.2 b (z56 (hfl b hb))).trans this
       refine⟨us.length-(i+1),by omega,i+1,ρ7,H7,ys++[v7],its++[u7],acc++[yv],rest',Sn,_,rfl,by omega,I8,tn8,fun b hb=>?_,hpin.2.1,?_,rv.append (.cons r7 .nil),(E'.trans E6).trans E7,hS7,((ra.mono E6).mono E7).append (RepL.cons rp7 RepL.nil),by simp;omega,qr,by simp[hds]⟩
       · obtain⟨o,e,dd⟩:=T.obj _ _ tn5 b hb;exact(I7.pin (b,o) (z57 _ (z57 _ (x5 hb e)))).2.1
       · rw[show(its++[u7]).toArray=its.toArray.push u7 by simp];exact hp8
   · have ei:i=us.length:=by omega
     have td:=T.done X' eP eW eK eCalm i [(Dl,{ cls:=.type "list",data:=.seq (List.toArray its) nn })] st (w::fr.map (zf8 σ)) H' EE Ip (stat hfp' hnp) tni (srcE i (by omega));rw[eA]at td;refine thn td fun r s4 ⟨hr,I4⟩=>?_;subst hr;dsimp only;rw[z8z (by omega),zpt gk]at hcl;cases hcl;rw[z6e]at hds;subst hds;obtain⟨mm,hns,_⟩:=id I4.loc;rw[eL]at hns;have hpin:=I4.pin (Dl,{ cls:=.type "list",data:=.seq (List.toArray its) nn }) (z57 _ (z6a.mpr rfl));have hHC:H' C=none:=by have:=I4.free;rw[eL]at this;exact this
     have bs:=I4.base;rw[eFs,eEx,eH0,eS0]at bs;have hok4:=I4.hok;rw[eP,eW]at hok4;have os4:=I4.os;rw[eS0]at os4;have hvl:=rv.length;have hral:=ra.length;exact fin Dl C s4 H' ρ' mm ys its nn (by rw[hDl];exact z5p _) hCle hDC hns hHC bs hok4 os4 I4.bare hpin.1 hD' rv ra (by omega) E' hSi
 exact codeAny_compStart_list (loop _ rfl) (T.self X.A 0 _ _ _ (T.keep _ _ _ st2 (fun b hb o e=>old b o e)) (loop _ rfl))
theorem zws(I2:Inv X pins σ H2 s2)(f2:∀b∈fp,zmb X pins H2 b){Q:VK}(kk:∀l ys ρ' H',Ext ρ1 H2 ρ' H'->StOk X.K X.mg ρ' H' S2->H' l=none->RepL X.K X.mg ρ' H' ds ys->Q (.ref l) (upd H' l (.lst ys))):Fin X s2 H2 fp ρ1 ds S2 none (EP X pins σ Q):=by
 intro Dl C s4 H' ρ' mm ys its nn hDl2 hCle hDC hns hHC bs hok4 os4 bare4 hpin hD' rv ra hz E' hSi;refine⟨mm,hns,fun h' hs'=>?_⟩;have nC:∀b o,s2.heap.get? b=some o->b≠C:=fun b o e z=>by have:=z58 e;rw[z]at this;exact z72 _ (z5q this (z6h hDl2 hCle))
 have un:Un (frs X.stack) fp H2 H' s2.heap h' :=
   ⟨fun b o e n h1 h2=>(hs'.2 b (nC b o e)).trans (bs.keep b o e n h1 h2),fun b o e n h1 h2=>by
     obtain⟨sl,q⟩:=bs.slot b o e n h1 h2;exact⟨sl,(hs'.2 b (nC b o e)).trans q⟩,bs.free,fun b o e h2=>by
     obtain⟨o',q⟩:=bs.there b o e h2;exact⟨o',(hs'.2 b (nC b o e)).trans q⟩,bs.tups,bs.frzs,bs.tbls⟩
 have I9:Inv X pins σ H' { s4 with heap:=h' }:=I2.call' (s':={ s4 with heap:=h' }) os4 un (zh7 hok4 hs' hHC) bare4 fun b hb=>by obtain⟨_,a1,a2,a3,a4,a5⟩:=f2 b hb;exact⟨a3,a1,a4,a5⟩
 have I10:Inv X pins σ (upd H' Dl (.lst ys)) { s4 with heap:=h' }:=Inv.track (its:=its) (n:=nn) I9 hD' ((hs'.2 Dl hDC).trans hpin) rv hz (.inr (z6h I2.sz hDl2)) (z7s (z56 (z5q I2.lt hDl2)))
   (fun y a e=>by
     obtain⟨v,q⟩:=I2.cell y a e;exact z56 (z5q q.lt hDl2)) (fun q hq=>z56 (z5q (z58 (I2.pin q hq).1) hDl2))
 exact⟨.ref Dl,upd H' Dl (.lst ys),I10,rfl,kk Dl ys ρ' H' E' hSi hD' ra⟩
theorem zwt{iy:Nat}{yy:Str}{py:Pos}{EN:Ends}(I2:Inv X pins σ H2 s2)(f2:∀b∈fp,zmb X pins H2 b)(hN:X.N.Nodup)(hiy:X.N[iy]? = some yy)(hyy:Loc X.env.scope yy)(hfy:X.fn yy=true\/X.env.scope.names.lookup yy=some .local)
   (kk:∀l ys ρ' H',Ext ρ1 H2 ρ' H'->StOk X.K X.mg ρ' H' S2->H' l=none->RepL X.K X.mg ρ' H' ds ys->EN.nx (σ.set iy (some (.ref l))) (upd H' l (.lst ys))):Fin X s2 H2 fp ρ1 ds S2 (some (assign (.Name yy py) X.env)) (fun _ s'=>SP X pins EN .next s'):=by
 intro Dl C s4 H' ρ' mm ys its nn hDl2 hCle hDC hns hHC bs hok4 os4 bare4 hpin hD' rv ra hz E' hSi;have I9:Inv X pins σ H' s4:=I2.call' (s':=s4) os4 bs hok4 bare4 fun b hb=>by obtain⟨_,a1,a2,a3,a4,a5⟩:=f2 b hb;exact⟨a3,a1,a4,a5⟩
 have cl2:∀y a,X.env.cells.lookup y=some a->a<Dl:=fun y a e=>by obtain⟨v,q⟩:=I2.cell y a e;exact z5q q.lt hDl2
 have pl2:∀q∈X.pn++pins,q.1<Dl:=fun q hq=>z5q (z58 (I2.pin q hq).1) hDl2;have ll2:X.env.locals<Dl:=z5q I2.lt hDl2;have I10:Inv X pins σ (upd H' Dl (.lst ys)) s4:=Inv.track (its:=its) (n:=nn) I9 hD' hpin rv hz (.inr (z6h I2.sz hDl2)) (z7s (z56 ll2))
   (fun y a e=>z56 (cl2 y a e)) (fun q hq=>z56 (pl2 q hq))
 refine wpAny_assign_Name (zgg I10 hN hiy hyy (v:=.ref Dl) rfl (fun s5 I5 ⟨aa,sb,ha⟩=>?_) hfy);have hCa:C≠aa:=by
   rcases ha with rfl | ha
   · exact z7s (z56 (z5q ll2 hCle))
   · exact z7s (z56 (z5q (cl2 _ _ ha) hCle))
 refine⟨mm,hns.sameBut sb hCa,fun h' hs'=>?_⟩;have hnC:upd H' Dl (.lst ys) C=none:=by rw[z0 (z7s hDC)];exact hHC
 have I6:=I5.turned (it:=C) (t':=s5.toks) (h':=h') (fun b o hb e=>(hs'.2 b hb).trans e) hnC (z7s (z56 (z5q ll2 hCle))) (.inr (z6h I2.sz (z6h hDl2 hCle)))
   (fun y a e=>z56 (z5q (cl2 y a e) hCle)) (fun q hq=>z56 (z5q (pl2 q hq) hCle))
 exact⟨_,_,I6,kk Dl ys ρ' H' E' hSi hD' ra⟩
end
def zht(f:E):Src:=fun ev S=>(f ev S).bind fun p=>match p.1 with
 | .lst us=>some ((us,none),p.2)
 | .tup us=>some ((us,none),p.2)
 | .obj a=>(match p.2[a]? with
   |some (.lst us)=>some ((us,some a),p.2)
   |_=>none)
 |_=>none
def zxb(f:E):Src:=fun ev S=>(f ev S).bind fun p=>match p.1 with
 | .int j=>if -(2^62)<=j/\j<2^62/\j<=(sizeLine:Int)then some ((jc 0 j.toNat,none),p.2)else none
 |_=>none
section
variable {X:Cx}{tg l:Expr}{f:E}
theorem zk5(hl:FE X l f):zug X tg l (zht f):=by
 intro pins s σ H R I h;obtain⟨ρ,ev,S,us,o,S1,hE,hS,hf,k⟩:=h;obtain⟨⟨y,S2⟩,q1,hf⟩:=zw hf;cases y with
 | lst us'=>
   cases hf;refine zfc hl pins s σ H R I ⟨ρ,ev,S,.lst us,S2,hE,hS,q1,fun v ρ1 H1 E1 hS1 r1=>?_⟩;obtain⟨p,vs,rfl,t1,rL⟩:=r1.refL;refine⟨p,rfl,⟨vs,t1.sq⟩,k _ ρ1 H1 E1 hS1 (fun ρ' H' S' E' hS' _=>⟨fun i d hd=>?_,fun i hi=>⟨vs,(t1.mono E').sq,by rw[<-rL.length];exact hi⟩⟩) fun _ _ _ J=>by obtain⟨_,_,_,z⟩:=J.list t1.sq;rw[rL.length];exact z⟩;obtain⟨xv,ex,rx⟩:=(rL.mono E').get hd;exact⟨⟨vs,xv,(t1.mono E').sq,ex⟩,fun u H5 ⟨e,y⟩=>⟨e,by have:=y vs (t1.mono E').sq;rw[ex]at this;cases this;exact rx⟩⟩
 | tup us'=>
   cases hf;refine zyy hl pins s σ H R I ⟨ρ,ev,S,.tup us,S2,hE,hS,q1,fun v ρ1 H1 E1 hS1 r1=>?_⟩;obtain⟨p,vs,rfl,t1,rL⟩:=r1.refT;refine⟨p,rfl,⟨vs,t1.sq⟩,k _ ρ1 H1 E1 hS1 (fun ρ' H' S' E' hS' _=>⟨fun i d hd=>?_,fun i hi=>⟨vs,(t1.mono E').sq,by rw[<-rL.length];exact hi⟩⟩) fun _ _ _ J=>by obtain⟨_,_,_,z⟩:=J.tuple t1.sq;rw[rL.length];exact z⟩;obtain⟨xv,ex,rx⟩:=(rL.mono E').get hd;exact⟨⟨vs,xv,(t1.mono E').sq,ex⟩,fun u H5 ⟨e,y⟩=>⟨e,by have:=y vs (t1.mono E').sq;rw[ex]at this;cases this;exact rx⟩⟩
 | obj a=>
   dsimp only at hf;split at hf
   · rename_i us' hau;cases hf;refine zfc hl pins s σ H R I ⟨ρ,ev,S,.obj a,S1,hE,hS,q1,fun v ρ1 H1 E1 hS1 r1=>?_⟩;unfold Rep at r1;obtain⟨p,rfl,hp⟩:=r1;obtain⟨vs,h1,r⟩:=hS1.ob _ _ p hau hp;refine⟨p,rfl,⟨vs,SqL.of h1⟩,k _ ρ1 H1 E1 hS1 (fun ρ' H' S' E' hS' ok=>?_) fun _ _ _ J=>by obtain⟨_,_,_,z⟩:=J.list (SqL.of h1);rw[r.length];exact z⟩;obtain⟨vs',h1',r'⟩:=hS'.ob _ _ p ok (E'.pre _ _ hp);refine⟨fun i d hd=>?_,fun i hi=>⟨vs',SqL.of h1',by rw[<-r'.length];exact hi⟩⟩;obtain⟨xv,ex,rx⟩:=r'.get hd;exact⟨⟨vs',xv,SqL.of h1',ex⟩,fun u H5 ⟨e,y⟩=>⟨e,by have:=y vs' (SqL.of h1');rw[ex]at this;cases this;exact rx⟩⟩
   · cases hf
 |_=>cases hf
theorem z2j{p2 p3:Pos}(hm:X.mg "range"=none)(hl:FE X l f)(hg:Gl X "range":=by rfl)(hst:starEach [l] X.env=[(false,eval l X.env)]:=by exact qd rfl):zug X tg (.Call (.Name "range" p2) [l] [] p3) (zxb f):=by
 intro pins s σ H R I h;obtain⟨ρ,ev,S,us,o,S1,hE,hS,hf,k⟩:=h;obtain⟨⟨y,S2⟩,q1,hf⟩:=zw hf;cases y with
 | int j=>
   dsimp only at hf;split at hf
   · rename_i hj;cases hf;refine zgq hg hm (zb hl zd hst) hst pins s σ H R I ⟨ρ,ev,S,[.int j],S1,hE,hS,by simp only[aC,aN,q1,Option.bind_some],fun vs ρ1 H1 E1 hS1 r1=>?_⟩;unfold RepL at r1;obtain⟨v,r,rfl,r2,r3⟩:=r1;unfold RepL at r3;subst r3;have hlen:(jc 0 j.toNat).length=j.toNat:=by simp[jc]
     refine⟨j,by rw[show v=.int j from r2],hj.1,hj.2.1,k _ ρ1 H1 E1 hS1 (fun ρ' H' S' E' hS' _=>⟨fun i d hd=>?_,fun i hi=>by rw[hlen]at hi;exact hi⟩) fun _ _ _ _=>by rw[hlen];omega⟩;have hi:i<j.toNat:=by rw[<-hlen];exact(z5s.mp hd).1
     refine⟨hi,fun xv H5 ⟨e,y⟩=>⟨e,?_⟩⟩;have:d=.int (0+(i:Int)):=by simp only[jc,z6u,List.getElem?_range hi,Option.map_some,Option.some.injEq]at hd;exact hd.symm
     subst this;rw[y];rfl
   · cases hf
 |_=>cases hf
end
open Classical in
def eGd(p:Ev->Prop)(f:E):E:=fun ev S=>if p ev then f ev S else none
theorem zkl{p:Ev->Prop}{f:E}{ev:Ev}{S:Sto}{r:D×Sto}(h:eGd p f ev S=some r):p ev/\f ev S=some r:=by
 unfold eGd at h;split at h
 · rename_i e;exact⟨e,h⟩
 · cases h
theorem zt3{p:Ev->Prop}{f:E}{ev:Ev}{S:Sto}(h:p ev):eGd p f ev S=f ev S:=by unfold eGd;rw[z55 h]
def jm(fr:List Nat)(f:Src)(c:B)(g:E):E:=fun ev S=>(f ev S).bind fun p=>(zat p.1.1 p.1.2 c g (fr.map (zha ev)) p.1.1 p.2).map fun q=>(.lst q.1,q.2)
def zkm(fr:List Nat)(f:Src)(c:B)(g:E):E:=fun ev S=>(f ev S).bind fun p=>(zat p.1.1 p.1.2 c g (fr.map (zha ev)) p.1.1 p.2).map fun q=>(.obj q.2.length,q.2++[.lst q.1])
section
variable {X:Cx}{scope:Scope}{x:Str}{N':List Str}{fr:List Nat}{elt l:Expr}{ifs:List Expr}{px pos py spos:Pos}{yy:Str}{f:Src}{g:E}{cn:B}{p:Ev->Prop}{iy:Nat}
def Blk(X:Cx)(x:Str)(N':List Str)(scope:Scope)(p:Ev->Prop)(P:Cx->Prop):Prop:=∀{pins σ H s ρ ev fp C},Inv X pins σ H s->EnvR X.K X.mg ρ H ev σ->p ev->(∀b∈fp,zmb X pins H b)->P (jt X (x::N') scope s H C fp)
theorem zs7{K:Frag}{mg:zMg}{ρ:List Addr}{H:Hp}{S:Sto}{l:Addr}{ys:List V}{ds:List D}(hS:StOk K mg ρ H S)(hn:H l=none)(ra:RepL K mg ρ H ds ys):Ext ρ H (ρ++[l]) (upd H l (.lst ys))/\StOk K mg (ρ++[l]) (upd H l (.lst ys)) (S++[.lst ds])/\Rep K mg (ρ++[l]) (upd H l (.lst ys)) (.obj S.length) (.ref l):=by have ea:=za7 hS (.lst ys) hn;refine⟨ea,hS.add hn ⟨ys,qg,ra.mono ea⟩,?_⟩;unfold Rep;refine⟨l,rfl,?_⟩;rw[z51 (by rw[hS.len]<;>exact z5p _),hS.len];simp
theorem z0h{P:Cx->Prop}(c:CompOk X scope x N' fr)(src:zug X (.Name x px) l f)(hb:Blk X x N' scope p P)(hif:∀s₀ H₀ C ex,P (jt X (x::N') scope s₀ H₀ C ex)->FT (jt X (x::N') scope s₀ H₀ C ex) ifs cn)(helt:∀s₀ H₀ C ex,P (jt X (x::N') scope s₀ H₀ C ex)->FE (jt X (x::N') scope s₀ H₀ C ex) elt g)
   (hc:X.calm=true:=by rfl) (hs:∀v,foldedSetIterable l X.env v=pure v:=by intro _;rfl) (new:Bool):FE X (.ListComp elt [⟨.Name x px,l,ifs,0⟩] scope pos) (eGd p (if new then zkm fr f cn g else jm fr f cn g)):=by
 intro pins s σ H Q I h;obtain⟨ρ,ev,S,d,S',hE,hS,hf,k⟩:=h;obtain⟨hp,hf⟩:=zkl hf;obtain⟨⟨us,o⟩,S1,ds,S2,q1,q2,hd⟩:∃(w:List D×Option Nat) (S1:Sto) (ds:List D) (S2:Sto),f ev S=some (w,S1)/\zat w.1 w.2 cn g (fr.map (zha ev)) w.1 S1=some (ds,S2)/\(if new then (d,S')=(.obj S2.length,S2++[.lst ds])else (d,S')=(.lst ds,S2)):=by
   cases new
   · obtain⟨⟨w,S1⟩,q1,hf⟩:=zw hf;obtain⟨⟨ds,S2⟩,q2,hf⟩:=zas hf;exact⟨w,S1,ds,S2,q1,q2,hf.symm⟩
   · obtain⟨⟨w,S1⟩,q1,hf⟩:=zw hf;obtain⟨⟨ds,S2⟩,q2,hf⟩:=zas hf;exact⟨w,S1,ds,S2,q1,q2,hf.symm⟩
 rw[eval_ListComp];refine wpAny_comprehension_free (use:=none) rfl hs (zby fun p hp e=>I.ok.has p.1 (.inl ((c.chk p hp).2.1 e))) c.kind (fun y hy e=>(c.chk y hy).2.2 e) ?_;refine thn (src pins s σ H (fun J H1=>∃ρ1,Ext ρ H ρ1 H1/\StOk X.K X.mg ρ1 H1 S1/\zsw X.K X.mg J us o ρ1 H1/\(∀pins σ s,Inv X pins σ H1 s->us.length<=sizeLine)) I ⟨ρ,ev,S,us,o,S1,hE,hS,q1,fun J ρ1 H1 E1 hS1 sk hz=>⟨ρ1,E1,hS1,sk,hz⟩⟩) fun v s1 h1=>thn h1 fun itv s2 h2=>?_;obtain⟨it,fp,tn,J,H2,e,I2,T,st2,f2,ρ1,E1,hS1,sk,hz⟩:=h2;subst e;have hE1:=hE.mono E1;refine zhf c hc (fun C=>hif _ _ _ _ (hb I2 hE1 hp f2)) (fun C=>helt _ _ _ _ (hb I2 hE1 hp f2)) I2 T st2 f2 hE1 hS1 sk (hz _ _ _ I2) q2 (zws I2 f2 fun l ys ρ' H' E' hS' hn ra=>?_);cases new
 · cases hd;exact k _ ρ' _ (E1.trans (E'.trans (jx hS' _ hn))) (hS'.new _ hn) (Rep.lst (s:=hS') hn ra)
 · cases hd;obtain⟨ea,sa,rr⟩:=zs7 hS' hn ra;exact k _ _ _ (E1.trans (E'.trans ea)) sa rr
theorem z0i{P:Cx->Prop}(new:Bool)(c:CompOk X scope x N' fr)(src:zug X (.Name x px) l f)(hb:Blk X x N' scope p P)(hif:∀s₀ H₀ C ex,P (jt X (x::N') scope s₀ H₀ C ex)->FT (jt X (x::N') scope s₀ H₀ C ex) ifs cn)(helt:∀s₀ H₀ C ex,P (jt X (x::N') scope s₀ H₀ C ex)->FE (jt X (x::N') scope s₀ H₀ C ex) elt g)(hN:X.N.Nodup)
   (hsw:swapsWith (.ListComp elt [⟨.Name x px,l,ifs,0⟩] scope pos) (some (.Name yy py)) spos.line X.env=pure true:=by rfl)
   (hiy:X.N[iy]? = some yy:=by rfl) (hyy:Loc X.env.scope yy:=by first | exact Or.inl rfl | exact Or.inr rfl) (hfy:X.fn yy=true\/X.env.scope.names.lookup yy=some .local:=by first | exact .inl rfl | exact .inr rfl | assumption)
   (hc:X.calm=true:=by rfl) (hs:∀v,foldedSetIterable l X.env v=pure v:=by intro _;rfl) :
   FS X (.Assign [.Name yy py] (.ListComp elt [⟨.Name x px,l,ifs,0⟩] scope pos) spos) (qm iy (eGd p (if new then zkm fr f cn g else jm fr f cn g))):=by
 intro pins s σ H EN I h;obtain⟨ρ,ev,S,oo,S',hE,hS,hf,k⟩:=h;obtain⟨⟨d,SS⟩,hf1,hf0⟩:=zas hf;clear hf;cases hf0;obtain⟨hp,hf⟩:=zkl hf1;clear hf1;obtain⟨⟨us,o⟩,S1,ds,S2,q1,q2,hd⟩:∃(w:List D×Option Nat) (S1:Sto) (ds:List D) (S2:Sto),f ev S=some (w,S1)/\zat w.1 w.2 cn g (fr.map (zha ev)) w.1 S1=some (ds,S2)/\(if new then (d,SS)=(.obj S2.length,S2++[.lst ds])else (d,SS)=(.lst ds,S2)):=by
   cases new
   · obtain⟨⟨w,S1⟩,q1,hf⟩:=zw hf;obtain⟨⟨ds,S2⟩,q2,hf⟩:=zas hf;exact⟨w,S1,ds,S2,q1,q2,hf.symm⟩
   · obtain⟨⟨w,S1⟩,q1,hf⟩:=zw hf;obtain⟨⟨ds,S2⟩,q2,hf⟩:=zas hf;exact⟨w,S1,ds,S2,q1,q2,hf.symm⟩
 rw[exec_Assign_Name_used _ _ _ _ hsw];refine z5o (wpAny_standAt (z5o ?_));show wpAny _ X.A (do let _ <-comprehension (.ListComp elt [⟨.Name x px,l,ifs,0⟩] scope pos) scope X.env _ (newList []) false (eval l X.env) (some (assign (.Name yy py) X.env))) _ _ s;refine z5o (z73 (wpAny_comprehension_free (use:=some (assign (.Name yy py) X.env)) (Q:=fun _ s'=>SP X pins EN .next s') rfl hs (zby fun p hp e=>I.ok.has p.1 (.inl ((c.chk p hp).2.1 e))) c.kind (fun y hy e=>(c.chk y hy).2.2 e) ?_) (fun _ s' hq=>z52 (z52 hq)) fun _ _ e=>e);refine thn (src pins s σ H (fun J H1=>∃ρ1,Ext ρ H ρ1 H1/\StOk X.K X.mg ρ1 H1 S1/\zsw X.K X.mg J us o ρ1 H1/\(∀pins σ s,Inv X pins σ H1 s->us.length<=sizeLine)) I ⟨ρ,ev,S,us,o,S1,hE,hS,q1,fun J ρ1 H1 E1 hS1 sk hz=>⟨ρ1,E1,hS1,sk,hz⟩⟩) fun v s1 h1=>thn h1 fun itv s2 h2=>?_;obtain⟨it,fp,tn,J,H2,e,I2,T,st2,f2,ρ1,E1,hS1,sk,hz⟩:=h2;subst e;have hE1:=hE.mono E1;refine zhf c hc (fun C=>hif _ _ _ _ (hb I2 hE1 hp f2)) (fun C=>helt _ _ _ _ (hb I2 hE1 hp f2)) I2 T st2 f2 hE1 hS1 sk (hz _ _ _ I2) q2 (zwt I2 f2 hN hiy hyy hfy fun l ys ρ' H' E' hS' hn ra=>?_);cases new
 · cases hd;have ext:=E1.trans (E'.trans (jx hS' (.lst ys) hn));exact k _ ρ' _ ext (hS'.new _ hn) ((hE.mono ext).set (Rep.lst (s:=hS') hn ra) iy)
 · cases hd;obtain⟨ea,sa,rr⟩:=zs7 hS' hn ra;have ext:=E1.trans (E'.trans ea);exact k _ _ _ ext sa ((hE.mono ext).set rr iy)
end
section
variable {X:Cx}{scope:Scope}{x:Str}{N':List Str}{fr:List Nat}{elt l:Expr}{ifs:List Expr}{px pos py spos:Pos}{yy:Str}{f:Src}{g:E}{cn:B}{iy:Nat}
theorem z0c{e:Expr}{f f':E}(h:FE X e f)(m:∀ev S r,f' ev S=some r->f ev S=some r):FE X e f':=fun pins s σ H Q I ⟨ρ,ev,S,d,S',hE,hS,hf,k⟩=>h pins s σ H Q I ⟨ρ,ev,S,d,S',hE,hS,m _ _ _ hf,k⟩
theorem zz1{st:Stmt}{f f':E}(h:FS X st (qm iy f))(m:∀ev S r,f' ev S=some r->f ev S=some r):FS X st (qm iy f'):=fun pins s σ H Q I ⟨ρ,ev,S,d,S',hE,hS,hf,k⟩=>h pins s σ H Q I ⟨ρ,ev,S,d,S',hE,hS,by
 obtain⟨r,h1,h2⟩:=zas hf;unfold qm;rw[m _ _ _ h1];exact z7k some h2,k⟩
theorem z3l(new:Bool)(c:CompOk X scope x N' fr)(src:zug X (.Name x px) l f)(hif:∀s₀ H₀ C ex,FT (jt X (x::N') scope s₀ H₀ C ex) ifs cn)(helt:∀s₀ H₀ C ex,FE (jt X (x::N') scope s₀ H₀ C ex) elt g)
   (hc:X.calm=true:=by rfl) (hs:∀v,foldedSetIterable l X.env v=pure v:=by intro _;rfl):FE X (.ListComp elt [⟨.Name x px,l,ifs,0⟩] scope pos) (if new then zkm fr f cn g else jm fr f cn g) :=
 z0c (z0h (p:=fun _=>True) (P:=fun _=>True) c src (fun _ _ _ _=>trivial) (fun _ _ _ _ _=>hif _ _ _ _) (fun _ _ _ _ _=>helt _ _ _ _) hc hs new) fun _ _ _ h=>(zt3 trivial).trans h
theorem zlr(c:CompOk X scope x N' fr)(src:zug X (.Name x px) l f)(hif:∀s₀ H₀ C ex,FT (jt X (x::N') scope s₀ H₀ C ex) ifs cn)(helt:∀s₀ H₀ C ex,FE (jt X (x::N') scope s₀ H₀ C ex) elt g)
   (hc:X.calm=true:=by rfl) (hs:∀v,foldedSetIterable l X.env v=pure v:=by intro _;rfl):FE X (.ListComp elt [⟨.Name x px,l,ifs,0⟩] scope pos) (jm fr f cn g):=z3l false c src hif helt hc hs
theorem z3h(new:Bool)(c:CompOk X scope x N' fr)(src:zug X (.Name x px) l f)(hif:∀s₀ H₀ C ex,FT (jt X (x::N') scope s₀ H₀ C ex) ifs cn)(helt:∀s₀ H₀ C ex,FE (jt X (x::N') scope s₀ H₀ C ex) elt g)(hN:X.N.Nodup)
   (hsw:swapsWith (.ListComp elt [⟨.Name x px,l,ifs,0⟩] scope pos) (some (.Name yy py)) spos.line X.env=pure true:=by rfl)
   (hiy:X.N[iy]? = some yy:=by rfl) (hyy:Loc X.env.scope yy:=by first | exact Or.inl rfl | exact Or.inr rfl) (hfy:X.fn yy=true\/X.env.scope.names.lookup yy=some .local:=by first | exact .inl rfl | exact .inr rfl | assumption)
   (hc:X.calm=true:=by rfl) (hs:∀v,foldedSetIterable l X.env v=pure v:=by intro _;rfl):FS X (.Assign [.Name yy py] (.ListComp elt [⟨.Name x px,l,ifs,0⟩] scope pos) spos) (qm iy (if new then zkm fr f cn g else jm fr f cn g)) :=
 zz1 (z0i (p:=fun _=>True) (P:=fun _=>True) new c src (fun _ _ _ _=>trivial) (fun _ _ _ _ _=>hif _ _ _ _) (fun _ _ _ _ _=>helt _ _ _ _) hN hsw hiy hyy hfy hc hs) fun _ _ _ h=>(zt3 trivial).trans h
theorem z3g(iy:Nat)(c:CompOk X scope x N' fr)(src:zug X (.Name x px) l f)(hif:∀s₀ H₀ C ex,FT (jt X (x::N') scope s₀ H₀ C ex) ifs cn)(helt:∀s₀ H₀ C ex,FE (jt X (x::N') scope s₀ H₀ C ex) elt g)(hN:X.N.Nodup)
   (hsw:swapsWith (.ListComp elt [⟨.Name x px,l,ifs,0⟩] scope pos) (some (.Name yy py)) spos.line X.env=pure true:=by rfl)
   (hiy:X.N[iy]? = some yy:=by rfl) (hyy:Loc X.env.scope yy:=by first | exact Or.inl rfl | exact Or.inr rfl) (hfy:X.fn yy=true\/X.env.scope.names.lookup yy=some .local:=by first | exact .inl rfl | exact .inr rfl | assumption)
   (hc:X.calm=true:=by rfl) (hs:∀v,foldedSetIterable l X.env v=pure v:=by intro _;rfl):FS X (.Assign [.Name yy py] (.ListComp elt [⟨.Name x px,l,ifs,0⟩] scope pos) spos) (qm iy (jm fr f cn g)):=z3h false c src hif helt hN hsw hiy hyy hfy hc hs
end
def zwd(j n:Nat)(x:Str)(t:LT)(is:List Nat):G:=fun ds S=>if ds.length=n then (match S[j]? with
 |some (.tab x' q)=>if x'=x/\q=t.qual then (zpx (ds.map some) is).map fun vs=>(.clo t vs,S)else none
 |_=>none)else none
section
variable {X:Cx}{pins:zAO}{σ:L2.St}{H H':Hp}{s:Shared}{t:LT}{cl:zLA}{is:List Nat}
theorem zxo{fs:List Addr}{h h':Heap}(u:Un fs [] H H' h h')(hn:∀b∈cl.map (·.2),H' b=none)(new:∀b∈cl.map (·.2),h.get? b=none):Un fs [] H (trk H' h' cl) h h':=by
 have out:∀{b:Addr}{v:HO},H' b=some v->trk H' h' cl b=some v:=fun {b v} e=>by unfold trk;rw[j4 fun z=>by rw[hn b z]at e;cases e];exact e
 refine⟨u.keep,u.slot,fun b o e n hx=>?_,u.there,fun b xs e=>out (u.tups b xs e),fun b o v e=>out (u.frzs b o v e),fun b ps e=>let⟨more,q⟩:=u.tbls b ps e;⟨more,out q⟩⟩;unfold trk;rw[j4 fun z=>by rw[new b z]at e;cases e];exact u.free b o e n hx
end
section
variable {P:Program}{w:World}{K:Frag}{mg:zMg}{base:Heap}{x qual:Str}{st:Stmt}{ps:List Str}{k j:Nat}{dV:Value}{f:Addr}{fd:FuncData}{t:LT}{is:List Nat}{e:Expr}{p2:Pos}
theorem FunD.okR(F:FunD K x qual st f fd dV){y:Str}(hm:mg y=some (.ref f))(S:FnScope ps ps (zh st))(hst:j5 st=[.Return (some e) p2])
   (hpe:∀(cdv:Value),zky K mg y cdv->∀(A:Around) (outer:List Env) (s:Shared) (H:Hp) (E:XK),
     ∃cl,CapsOk (zca CX0 P w K mg base ps qual (zh st) f cdv A outer s H E) t cl is/\PE (zca CX0 P w K mg base ps qual (zh st) f cdv A outer s H E) e (z2h K mg j y t cl)):FnOk P w K mg base CX0 (k+1) f fd ps (spG K mg (zwd j ps.length y t is)):=by
 have co:=F.code hm;obtain⟨oc,od,kV,doc,pm,an,cdv,ct,osl,rfl,lk,hcd⟩:=F.ex;have len:∀vs H Q E,spG K mg (zwd j ps.length y t is) vs H Q E->vs.length=ps.length:=fun vs H Q E h=>by
   obtain⟨ρ,ds,S,d,S',r,hS,hf,k⟩:=h;unfold zwd at hf;split at hf
   · rename_i hl;rw[<-r.length];exact hl
   · cases hf
 refine⟨len,fun A outer s H args us vs Q E hr e0 hb r hsp=>?_⟩;have hl:=len _ _ _ _ hsp;obtain⟨ρ,ds,S0,d,S',rr,hS,hf,kk⟩:=hsp;have KX:K.In s.heap:=e0.mod.kin.keeps fun b o e=>(e0.bs b o e).1;have lim:s.heap.NoLimit:=e0.mod.nolimit.keeps fun b o e=>(e0.bs b o e).1;have hkind:∀y∈ps.zip us,(zh st).names.lookup y.1=some .local\/((zh st).names.lookup y.1=some .cell/\((cellsFrom (s.heap.objs.size+1) (zh st).names []).lookup y.1).isSome=true):=fun⟨n,v⟩ hy=>by
   rcases S.par n (z7w hy).1 with q | q
   · exact .inl q
   · exact .inr ⟨q,cellsFrom_some _ _ _ (.inl q)⟩
 refine z96 hr.depth (KX _ _ lk) rfl S.co S.gen rfl (codeRec_of KX hcd) (hb _ _ _ _ ?_);refine z9c S.kind hkind fun env he s1 x=>?_;subst he;refine⟨lim.keeps x.toInCall.keep,codeAny_func ?_⟩;have I:Inv (zca CX0 P w K mg base ps qual (zh st) f cdv A outer s H E) [] (start ps vs) H s1:=zdp S hr.hd e0 hl r x;obtain⟨cl,C,pe⟩:=hpe cdv co A outer s H E;unfold zwd at hf;split at hf
 · rename_i hdl;split at hf
   · rename_i x' q hj;split at hf
     · rename_i hxq;obtain⟨rfl,rfl⟩:=hxq;obtain⟨kv,hkv,hf⟩:=zas hf;cases hf;have hE:EnvR K mg ρ H (ds.map some) (start ps vs):=by have:=EnvR.start (N:=ps) rr;rw[hdl,z9n,List.replicate_zero,z6e]at this;exact this
       rw[hst];refine z8a (thn (qa3 (thn (pe [] s1 (start ps vs) H (fun v H1=>∃a c pm ct,v=.ref a/\Ext ρ H ρ H1/\StOk K mg ρ H1 S0/\a∉ρ/\c∉ρ/\H1 a=some (.ext (zsf t cl a c pm ct))/\H1 c=some (.ext (zau c t.qual))) I ⟨ρ,S0,hS,hj,fun a c pm ct H' E1 hS1 n1 n2 h1 h2=>⟨a,c,pm,ct,rfl,E1,hS1,n1,n2,h1,h2⟩⟩) fun u s' ⟨v,H1,J,rv,a,c,pm,ct,ev,E1,hS1,n1,n2,h1,h2⟩=>?_)) fun fl s' q=>q);subst ev;have E2:=C.ext (ρ:=ρ) J;obtain⟨cs,hcs,rk⟩:=zhi C J (hE.mono E1) hS1 cl is kv (fun _ h=>h) (by
         rw[C.at_,<-C.names,z8g];rfl) hkv
       rw[C.names]at hcs;have new:∀b∈cl.map (·.2),s.heap.get? b=none:=fun b hb=>by obtain⟨p,hp,rfl⟩:=z7q.mp hb;exact z9d (J.ok.cab p.1 p.2 (C.fn _ (C.names▸z8s hp)) (C.look p hp))
       refine⟨.ref a,trk H1 s'.heap cl,J.os,J.bare,zxo J.base (C.hn J) new,C.hok J,rv,kk (.ref a) ρ _ (E1.trans E2) (C.st J hS1) ?_⟩;unfold Rep;exact⟨a,cs,rfl,⟨n1,c,pm,ct,cl,n2,E2.keep _ _ h1 n1,E2.keep _ _ h2 n2,C.nodup J,hcs⟩,rk.mono E2⟩
     · cases hf
   · cases hf
 · cases hf
theorem HasDef.calR(h:HasDef K mg x st 0)(S:FnScope ps ps (zh st))(hb:zxa x x st ps)(hst:j5 st=[.Return (some e) p2])
   (hpe:∀(f:Addr) (cdv:Value),zky K mg x cdv->∀(A:Around) (outer:List Env) (s:Shared) (H:Hp) (E:XK),
     ∃cl,CapsOk (zca CX0 P w K mg base ps x (zh st) f cdv A outer s H E) t cl is/\PE (zca CX0 P w K mg base ps x (zh st) f cdv A outer s H E) e (z2h K mg j x t cl)):Cal P w K mg base (k+1) x (zwd j ps.length x t is):=by
 obtain⟨f,fd,dV,F,hm,rfl⟩:=h.ex;exact⟨f,fd,ps,[],[],[],_,F.okR hm S hst (hpe f),hm,F.kp,F.binds0 hb,.nil,fun _ _=>RepL.nil,fun args S r e=>by rw[z6e];exact e⟩
end
end F
namespace Srt
open PySem PyProof.Rows
open Builtin.List (listItems listUpdate)
section
variable {prog:Program}{w:World}{A:Around}{E:zVP}{s:Shared}
structure Pln (prog:Program) (w:World) (A:Around) (E:zVP) (vs:List Value) (P:List Value->Prop) (s2:Shared):Prop where
 ex:∃(kd:SortKind) (U:Keyed->Prop) (kc:Keyed->List Int),(2<=vs.length->wpAny (model prog w) A (keyKind' vs.toArray) (fun kd' s'=>s'=s2/\kd'=kd) E s2)/\Cmp prog w A E s2 kd U (bk kc)/\(∀x∈vs.zip vs,U x)/\(vs.zip vs).Pairwise (fun x y=>kc x≠kc y) /\
   ∀out:List Keyed,out.Perm (vs.zip vs)->out.Pairwise (fun x y=>¬ kc y<kc x)->P (out.map (·.2))
theorem zgx{a:Addr}{vs:List Value}{n:Nat}{P:Fin->Shared->Prop}(ho:s.heap.get? a=some (seqObj "list" vs.toArray n))(hl:vs.length<=100000)
   (h:∀e1,(askHeap s.heap a vs).get? a=some (seqObj "list" #[] e1)->Pln prog w A E vs (fun out=>P (.done (.ret .none)) { s with heap:=(askHeap s.heap a vs).update a (Obj.mapSeq fun _=>out.toArray) }) { s with heap:=askHeap s.heap a vs }) :
   wpAny (model prog w) A (Builtin.«list.sort» ⟨[.ref a],[]⟩) P E s:=by
 rw[list_sort_plain a];have ha:a<s.heap.objs.size:=z58 ho;refine z5o (qau ho rfl ?_);refine z5o (listUpdate_at ho rfl ?_);obtain⟨e1,ho1⟩:∃e1,(s.heap.update a (Obj.mapSeq fun _=>#[])).get? a=some (seqObj "list" #[] e1):=⟨_,get?_update_seq ho (fun _=>#[])⟩
 refine z5o (seqEpoch_at ho1 rfl ?_);refine z5o (wpAny_newTuple ?_);refine z5o (wpAny_newList ?_);refine wpAny_holding ?_;have ho6:(askHeap s.heap a vs).get? a=some (seqObj "list" #[] e1):=by unfold askHeap;rw[Heap.get?_push_ne _ _ _ (by rw[size_push',Heap.size_update];exact z56 (qa8 ha)),Heap.get?_push_ne _ _ _ (by rw[Heap.size_update];exact z56 ha)];exact ho1
 obtain⟨kd,U,kc,hkk,C,hU,hd,fin⟩:=(h e1 ho6).ex;have vsz:vs.toArray.size=vs.length:=by simp
 have zl:(vs.toArray.zip vs.toArray).toList=vs.zip vs:=by simp
 have sz2:(vs.zip vs).length=vs.length:=by rw[List.length_zip,Nat.min_self]
 have done:∀st:SortSt,failedOf st=none->(arrOf st).toList.Perm (vs.zip vs)->(arrOf st).toList.Pairwise (fun x y=>¬ kc y<kc x)->wpAny (model prog w) A (do
     let touched:=(<-seqEpoch a) != e1
     listUpdate (.ref a) fun _=>(arrOf st).map (·.2)
     if let some e:=failedOf st then rule "list.sort.comparison-raised";throw e
     if touched then rule "list.sort.modified";raiseError "ValueError" "list modified during sort"
     ret .none) P E { s with heap:=askHeap s.heap a vs }:=by
   intro st hf hp hs;refine z5o (seqEpoch_at ho6 rfl ?_);refine z5o (listUpdate_at ho6 rfl ?_ (hsz2:=by
     show((arrOf st).map (·.2)).size<=_;rw[Array.size_map,<-Array.length_toList,hp.length_eq,sz2,z7b];omega))
   rw[hf];simp only[bne_self_eq_false,z50,z61];have:=fin (arrOf st).toList hp hs;have e:((arrOf st).toList.map (·.2)).toArray=(arrOf st).map (·.2):=by rw[<-Array.toList_map,Array.toArray_toList]
   rw[e]at this;exact z52 this
 by_cases h2:vs.toArray.size<2
 · rw[z55 h2,z55 h2];refine z5o (z52 ?_);dsimp only;rw[StateT.run_pure];refine z5o (z52 ?_);refine done (SortSt.mk' general' (vs.toArray.zip vs.toArray) #[] 7 none) rfl (by show(vs.toArray.zip vs.toArray).toList.Perm _;rw[zl]) ?_;show(vs.toArray.zip vs.toArray).toList.Pairwise _;rw[zl]
   match hz:vs.zip vs,sz2 with
   | [],_=>exact List.Pairwise.nil
   | [x],_=>exact z8t _ _
   |x::y::r,e=>rw[vsz]at h2;simp at e;omega
 · rw[z6c h2,z6c h2];refine z5o (z73 (hkk (by rw[vsz]at h2;omega)) (fun kd' s' hs'=>?_) fun _ _ e=>e);obtain⟨rfl,rfl⟩:=hs';refine z5o (z73 (ze0 (st:=SortSt.mk' kd' (vs.toArray.zip vs.toArray) #[] 7 none) C rfl rfl rfl (fun x hx=>hU x (by rw[<-zl];exact hx)) ?_ (Q:=fun _ st'=>(arrOf st').toList.Perm (vs.toArray.zip vs.toArray).toList/\failedOf st'=none/\(arrOf st').toList.Pairwise (le (bk kc))) fun st' a1 a2 a3=>⟨a1,a2,a3⟩) ?_ fun _ _ e=>e)
   · show(vs.toArray.zip vs.toArray).toList.Pairwise _;rw[zl];refine hd.imp fun {x y} hxy=>?_;simp only[bk,qa7];by_cases q:kc x<kc y
     · exact .inl q
     · right
       by_cases q2:kc y<kc x
       · exact q2
       · exact absurd (qbb (z8i.mp q2) (z8i.mp q)) hxy
   · rintro⟨⟨⟩,st'⟩ s3 ⟨rfl,hp,hf,hs⟩;refine done st' hf (by rw[zl]at hp;exact hp) (hs.imp fun {x y} q=>?_);simpa [le,bk] using q
theorem sorted_pl{l:Addr}{vs:List Value}{Q:zVP}(hl:s.heap.IsList l vs.toArray)(hv:vs.length<=100000)
   (h:∀e1,(askHeap (colHeap s.heap vs) (s.heap.objs.size+1) vs).get? (s.heap.objs.size+1)=some (seqObj "list" #[] e1) ->
     Pln prog w A.in1.in1 E vs (fun out=>Q (.ref (s.heap.objs.size+1)) { s with heap:=(askHeap (colHeap s.heap vs) (s.heap.objs.size+1) vs).update (s.heap.objs.size+1) (Obj.mapSeq fun _=>out.toArray) }) { s with heap:=askHeap (colHeap s.heap vs) (s.heap.objs.size+1) vs }) :
   wpAny (model prog w) A (call (.builtin "sorted") [.ref l]) Q E s:=by
 refine Calls.call_function_entry kind_sorted plain_sorted entry_sorted (args_sorted1 _) ?_;unfold Builtin.«sorted»;refine z5o (m:=checkCount "sorted" 1 1 _) (z52 ?_);have hz:=z7b;refine z5o (collect_list hl ?_ (by omega));refine z5o (wpAny_newList ?_);have hsz:((s.heap.push (seqObj "list" #[] 0)).update s.heap.objs.size (Obj.mapSeq (·++vs.toArray))).objs.size=s.heap.objs.size+1:=by rw[Heap.size_update,size_push']
 have hoL:(colHeap s.heap vs).get? (s.heap.objs.size+1)=some (seqObj "list" vs.toArray 0):=by unfold colHeap;rw[<-hsz];exact z6o _ rfl
 show wpAny _ _ _ _ _ { s with heap:=colHeap s.heap vs };rw[hsz];refine z5o (wpAny_holding (wpAny_call_entry slot_list_sort ⟨_,hoL,rfl⟩ entry_list_sort (z73 (zgx (s:={ s with heap:=colHeap s.heap vs }) (P:=fun fin s'=>fin=.done (.ret .none)/\Q (.ref (s.heap.objs.size+1)) s') hoL hv fun e1 he=>?_) (fun fin s' hf=>⟨.none,hf.1,z52 ⟨_,rfl,hf.2⟩⟩) fun _ _ e=>e) (args_list_sort _)));obtain⟨kd,U,kc,b1,b2,b3,b4,b5⟩:=(h e1 he).ex;exact⟨kd,U,kc,b1,b2,b3,b4,fun out o1 o2=>⟨rfl,b5 out o1 o2⟩⟩
end
end Srt
namespace F
open PySem L2 PySem.Spec PySem.Calls PyProof.Rows PySem.W
def zew(f:E):E:=fun ev S=>(f ev S).bind fun p=>(z1k p.2 p.1).bind fun ds=>if ds.length<=100000 then (zk6 ds ds).map fun r=>(.lst r,p.2)else none
def z2o(K:Frag)(mg:zMg):List V->Hp->VK->Prop:=fun xs H Q=>∃ρ S ds l vs r,xs=[.ref l]/\StOk K mg ρ H S/\SqL K H l vs/\RepL K mg ρ H ds vs/\ds.length<=100000/\zk6 ds ds=some r/\∀v H',Ext ρ H ρ H'->StOk K mg ρ H' S->Rep K mg ρ H' (.lst r) v->Q v H'
section
variable {X:Cx}{e:Expr}{f:E}{p pos:Pos}
theorem zly:CallR X (.builtin "sorted") (z2o X.K X.mg):=by
 intro pins s σ H xs us Q I rv h;obtain⟨ρ,S,ds,l,vs,r,rfl,hS,sq,rl,hlen,q5,kk⟩:=h;cases rv with
 | @cons _ uu _ _ rv0 rv1=>
   cases rv1;obtain rfl:uu=Value.ref l:=rv0;obtain⟨its,rvs,pl,hz⟩:=I.list sq;have l1:vs.length=its.length:=rvs.length;have l2:ds.length=vs.length:=rl.length;refine Srt.sorted_pl pl.isList (by omega) fun e1 he1=>?_;have keep:∀b o,s.heap.get? b=some o->(Srt.askHeap (Srt.colHeap s.heap its) (s.heap.objs.size+1) its).get? b=some o:=fun b o e=>zsq (z56 (qa8 (z58 e))) (zsc e);have I3:Inv X pins σ H { s with heap:=Srt.askHeap (Srt.colHeap s.heap its) (s.heap.objs.size+1) its }:=I.kept (t':=s.toks) keep;have na:H (s.heap.objs.size+1)=none:=I.hok.fresh (z6f _ _);have nl:s.heap.objs.size+1≠X.env.locals:=fun z=>absurd I.lt (by rw[<-z];exact qae.mpr (z6f _ _));have ncell:∀x c,X.env.cells.lookup x=some c->c≠s.heap.objs.size+1:=fun x c e z=>by obtain⟨v,o,ho,_⟩:=I.cell x c e;have:=z58 ho;rw[z]at this;exact absurd this (qae.mpr (z6f _ _))
   have npin:∀p∈X.pn++pins,p.1≠s.heap.objs.size+1:=fun p hp z=>by have:=z58 (I.pin p hp).1;rw[z]at this;exact absurd this (qae.mpr (z6f _ _))
   unfold zk6 at q5;split at q5
   · rename_i hc;cases q5;obtain⟨hn4,hkn,hpw⟩:=hc;obtain⟨sh,em⟩:=zs4 I3 hn4 rl rvs hkn;generalize hh:(Srt.askHeap (Srt.colHeap s.heap its) (s.heap.objs.size+1) its)=h5 at *;have hU:∀x:Keyed,x∈its.zip its->zez h5 (kn ds) x.1 (zco h5 x.1):=fun x hx=>sh _ (z7w (a:=x.1) (b:=x.2) hx).1;obtain⟨kdd,hcmp,hkk⟩:=zm2 (prog:=X.prog) (w:=X.w) (A:=X.A.in1.in1) (E:=X.xe) (s:={ s with heap:=h5 }) (U:=fun x=>x∈its.zip its) (kc:=fun x=>zco h5 x.1) hn4 hU;have pwk:(its.zip its).Pairwise (fun x y=>zco h5 x.1≠zco h5 y.1):=by
       rw[<-em,z7u]at hpw;have:((its.zip its).map (·.1)).Pairwise (fun a b=>zco h5 a≠zco h5 b):=by rw[List.map_fst_zip (by omega)];exact hpw
       rw[z7u]at this;exact this
     refine⟨kdd,fun x=>x∈its.zip its,fun x=>zco h5 x.1,fun h2=>hkk its (by omega) fun v hv=>⟨_,sh v hv⟩,hcmp,fun x hx=>hx,pwk,fun out ho hs=>?_⟩;have eo:=zh5 (c:=fun x:Keyed=>zco h5 x.1) ho hs pwk;have m1:=zam (c:=fun z:Value×Value×V×D=>zco h5 z.1) (c':=fun x:Keyed=>zco h5 x.1) (fun z=>(z.1,z.2.1)) (fun _=>rfl) (its.zip (its.zip (vs.zip ds)));have m2:=zam (c:=fun z:Value×Value×V×D=>zco h5 z.1) (c':=fun p:List Int×D=>p.1) (fun z=>(zco h5 z.1,z.2.2.2)) (fun _=>rfl) (its.zip (its.zip (vs.zip ds)));rw[zxl its its vs ds rfl l1.symm l2.symm]at m1;rw[zxk (zco h5) its its vs ds rfl l1.symm l2.symm,em]at m2;rw[m1]at eo;have zr:∀z∈jp (fun z:Value×Value×V×D=>zco h5 z.1) (its.zip (its.zip (vs.zip ds))),RelV z.2.2.1 z.2.1/\Rep X.K X.mg ρ H z.2.2.2 z.2.2.1:=fun z hz=>
       zmc rl rvs z.2 (z7w (a:=z.1) (b:=z.2) ((ji _).mem_iff.mp hz)).2
     have e2:out.map (·.2)=(jp (fun z:Value×Value×V×D=>zco h5 z.1) (its.zip (its.zip (vs.zip ds)))).map (fun z=>z.2.1):=by rw[eo,z8g];rfl
     have e3:(jp (fun p:List Int×D=>p.1) ((ds.map zes).zip ds)).map (·.2)=(jp (fun z:Value×Value×V×D=>zco h5 z.1) (its.zip (its.zip (vs.zip ds)))).map (fun z=>z.2.2.2):=by rw[m2,z8g];rfl
     have rvals:Vals ((jp (fun z:Value×Value×V×D=>zco h5 z.1) (its.zip (its.zip (vs.zip ds)))).map (fun z=>z.2.2.1)) (out.map (·.2)):=by rw[e2];exact zje fun z hz=>(zr z hz).1
     have rreps:RepL X.K X.mg ρ H ((jp (fun p:List Int×D=>p.1) ((ds.map zes).zip ds)).map (·.2)) ((jp (fun z:Value×Value×V×D=>zco h5 z.1) (its.zip (its.zip (vs.zip ds)))).map (fun z=>z.2.2.1)):=by rw[e3];exact zjq fun z hz=>(zr z hz).2
     have lo:(out.map (·.2)).length=its.length:=by rw[z6s,ho.length_eq,List.length_zip,Nat.min_self]
     have szl:((jp (fun z:Value×Value×V×D=>zco h5 z.1) (its.zip (its.zip (vs.zip ds)))).map (fun z=>z.2.2.1)).length<=sizeLine:=by rw[rvals.length,lo];omega
     have I7:=I3.turned (t':=s.toks) (it:=s.heap.objs.size+1) (h':=h5.update (s.heap.objs.size+1) (Obj.mapSeq fun _=>(out.map (·.2)).toArray)) (fun b o nb e=>by rw[qak _ _ _ _ nb];exact e) na nl (.inr (z6h I.sz (z6f _ _))) ncell npin;have ga7:=get?_update_seq he1 (fun _=>(out.map (·.2)).toArray);have I8:=Inv.track I7 na ga7 rvals szl (.inr (z6h I.sz (z6f _ _))) nl ncell npin;exact⟨.ref (s.heap.objs.size+1),_,I8,rfl,kk _ _ (jx hS _ na) (hS.new _ na) (Rep.lst (s:=hS) na rreps)⟩
   · cases q5
theorem zkg(hm:X.mg "sorted"=none)(he:FE X e f)(hg:Gl X "sorted":=by rfl)(hs:starEach [e] X.env=(false,eval e X.env)::starEach [] X.env:=by exact qd rfl)(hpl:(backTo pos (starEach [] X.env)).any (·.1)=false:=by exact qv rfl) :
   FE X (.Call (.Name "sorted" p) [e] [] pos) (zew f) :=
 qz (zjw zly hg hm zi5 (zb he zd hs) (by decide) (by decide) hs hpl) fun σ H Q h=>by
   obtain⟨ρ,ev,S,d,S',hE,hS,hf,k⟩:=h;obtain⟨⟨x,S1⟩,q1,hf⟩:=zw hf;obtain⟨ds,q2,hf⟩:=zw hf;dsimp only at hf;split at hf
   · rename_i hl;obtain⟨r,q3,hf⟩:=zas hf;cases hf;refine⟨ρ,ev,S,[x],S',hE,hS,by unfold aC;rw[q1];rfl,fun vs ρ1 H1 E1 hS1 r1=>?_⟩;obtain⟨v,rfl,rx⟩:=one r1;obtain⟨l,us,rfl,sq,rl⟩:=zyb hS1 rx q2;exact⟨ρ1,S',ds,l,us,r,rfl,hS1,sq,rl,hl,q3,fun v H' E' hS' r'=>k v ρ1 H' (E1.trans E') hS' r'⟩
   · cases hf
end
def zvc(kvs:List (Int×D))(k:Int)(d:D):List (Int×D):=if zl8 kvs k=true then kvs.map (fun p=>if p.1=k then (p.1,d)else p)else kvs++[(k,d)]
section
variable {K:Frag}{mg:zMg}{ρ:List Addr}{H:Hp}{k:Int}{d:D}{v:V}
theorem zp8:∀{kvs:List (Int×D)}{vs:List (Key×V)},vs.map (·.1)=kvs.map (fun p=>(Sum.inl p.1:Key))->(vs.any fun kv=>decide (kv.1=(Sum.inl k:Key)))=zl8 kvs k
 | [],[],_=>rfl
 | [],_::_,h=>by cases h
 |_::_,[],h=>by cases h
 | p::kvs,q::vs,h=>by
   rw[z5x,z5x]at h;obtain⟨h1,h2⟩:=z9t h;have h1:q.1=Sum.inl p.1:=h1;have ih:=zp8 h2;unfold zl8 at ih ⊢;rw[List.any_cons,List.any_cons,ih,h1];congr 1;by_cases e:p.1=k
   · rw[z6b e,z6b (z7k Sum.inl e)]
   · rw[z54 e,z54 fun z=>e (qbl z)]
theorem znc(r:Rep K mg ρ H d v):∀{kvs:List (Int×D)}{vs:List (Key×V)},vs.map (·.1)=kvs.map (fun p=>(Sum.inl p.1:Key))->RepL K mg ρ H (kvs.map (·.2)) (vs.map (·.2)) ->
   (vs.map fun kv=>if kv.1=(Sum.inl k:Key)then (kv.1,v)else kv).map (·.1)=(kvs.map fun p=>if p.1=k then (p.1,d)else p).map (fun p=>(Sum.inl p.1:Key))/\RepL K mg ρ H ((kvs.map fun p=>if p.1=k then (p.1,d)else p).map (·.2)) ((vs.map fun kv=>if kv.1=(Sum.inl k:Key)then (kv.1,v)else kv).map (·.2))
 | [],[],_,h=>⟨rfl,h⟩
 | [],_::_,h,_=>by cases h
 |_::_,[],h,_=>by cases h
 | p::kvs,q::vs,h,hr=>by as_aux_lemma=>
   rw[z5x,z5x]at h;obtain⟨h1,h2⟩:=z9t h;have h1:q.1=Sum.inl p.1:=h1;unfold RepL at hr;obtain⟨u,r',e,r1,r2⟩:=hr;obtain⟨e1,e2⟩:=z9t e;subst e2;have e1:q.2=u:=e1;subst e1;obtain⟨i1,i2⟩:=znc r h2 r2;simp only[z5x];by_cases z:p.1=k
   · rw[z55 z,z55 (h1.trans (z7k Sum.inl z))];exact⟨by rw[i1,h1],RepL.cons r i2⟩
   · rw[z6c z,z6c (fun w=>z (qbl (h1.symm.trans w)))];exact⟨by rw[i1,h1],RepL.cons r1 i2⟩
theorem zu5(r:Rep K mg ρ H d v){kvs:List (Int×D)}{vs:List (Key×V)}(h1:vs.map (·.1)=kvs.map (fun p=>(Sum.inl p.1:Key)))(h2:RepL K mg ρ H (kvs.map (·.2)) (vs.map (·.2))) :
   (zif vs (Sum.inl k:Key) v).map (·.1)=(zvc kvs k d).map (fun p=>(Sum.inl p.1:Key))/\RepL K mg ρ H ((zvc kvs k d).map (·.2)) ((zif vs (Sum.inl k:Key) v).map (·.2)):=by
 unfold zif zvc;rw[zp8 h1];split
 · exact znc r h1 h2
 · rw[z9v,z9v,z9v,z9v,h1];exact⟨rfl,h2.append (RepL.cons r RepL.nil)⟩
end
def zbg(o i e:E):C:=fun ev S=>(e ev S).bind fun p=>(o ev p.2).bind fun q=>(i ev q.2).bind fun r=>match q.1,r.1 with
 | .obj a,.int k=>(match r.2[a]? with
   |some (.dct kvs)=>if kvs.length<sizeLine then some (.nx ev,r.2.set a (.dct (zvc kvs k p.1)))else none
   |_=>none)
 |_,_=>none
section
variable {X:Cx}{o i e:Expr}{f g h:E}{pos:Pos}
theorem zke{k:Nat}{pos':Pos}(hr:Room k X.A)(ho:FE X o f)(hi:FE X i g)(hv:FE X e h)(hs:swapsWith e (some (.Subscript o i pos')) pos.line X.env=pure false:=by rfl) :
   FS X (.Assign [.Subscript o i pos'] e pos) (zbg f g h) :=
 xg (zvh (by have:=hr.un;omega) ho hi hv hs) fun σ H D h=>by
   obtain⟨ρ,ev,S,o,S',hE,hS,hf,k⟩:=h;obtain⟨⟨d,S1⟩,q1,hf⟩:=zw hf;obtain⟨⟨y,S2⟩,q2,hf⟩:=zw hf;obtain⟨⟨z,S3⟩,q3,hf⟩:=zw hf;dsimp only at q1 q2 q3 hf;split at hf
   · rename_i a kk _;split at hf
     · rename_i kvs hd;split at hf
       · rename_i hl;cases hf;refine⟨ρ,ev,S,d,S1,hE,hS,q1,fun v ρ1 H1 E1 hS1 r1=>⟨ρ1,ev,S1,_,S2,hE.mono E1,hS1,q2,fun w ρ2 H2 E2 hS2 r2=>⟨ρ2,ev,S2,_,S3,(hE.mono E1).mono E2,hS2,q3,fun t ρ3 H3 E3 hS3 r3=>?_⟩⟩⟩;unfold Rep at r2;obtain⟨p,rfl,hp⟩:=r2;have hp3:=E3.pre _ _ hp;obtain⟨vs,m1,m2,m3⟩:=hS3.ob a _ p hd hp3;have et:t=kV (Sum.inl kk):=r3;have hlen:vs.length=kvs.length:=by have:=z7k List.length m2;simpa using this
         have e0:=zfv hS3 (.dK (zif vs (Sum.inl kk:Key) v)) hp3;refine⟨p,_,rfl,by rw[et];exact DPut.k m1 (by rw[hlen];exact hl),?_⟩;obtain⟨n1,n2⟩:=zu5 (k:=kk) (((r1.mono E2).mono E3)) m2 m3;exact k σ ρ3 _ (((E1.trans E2).trans E3).trans e0) (hS3.set hp3 ⟨_,qg,n1,n2.mono e0⟩) ((((hE.mono E1).mono E2).mono E3).mono e0)
       · cases hf
     · cases hf
   · cases hf
end
section
variable {prog:Program}{w:World}{κ:Type} [DecidableEq κ] {knd:KeyKind prog w κ}{A:Around}{E:zVP}{s:Shared}{d:Addr}{kvs:List (κ×Value)}{ep:Nat}
theorem zoq{Q:Bool->Shared->Prop}(hd:(d==sysModules)=false)(hm:s.heap.DictOf knd d kvs)(hl:kvs.length<=2^24)(h:∀b tk,Q b { s with toks:=tk }) :
   wpAny (model prog w) A (Builtin.List.listLengthHint (.ref d)) Q E s:=by
 unfold Builtin.List.listLengthHint;refine z5o (wpAny_specialOf hm.typeIs PySem.F.slot_dict_len.lookup ?_);generalize hid:("dict.__len__":String)=id0
 wp_delta
 rw[show splitId id0=some ("dict", "__len__")from by subst hid;decide +kernel];subst hid;refine z5o (wpAny_isInstance (T:="dict") (b:=true) hm.typeIs (by rw[isSubtype_type];kernel_rfl) ?_);refine wpAny_ite_split (fun z=>absurd z (by decide)) (fun _=>?_);refine wpAny_ite_split (fun _=>?_) (fun z=>absurd (by decide +kernel) z);refine z5o (qbe (T:="dict") hm.typeIs ?_);exact z52 (h _ s.toks)
theorem zr4{R:Result->Shared->Prop}(hh:A.handled=none)(hd:(d==sysModules)=false)(hm:s.heap.DictAt knd d kvs ep)(hl:kvs.length<=2^24)(S:Addr)(res:Value)(c₀:Nat)(hS:s.heap.get? S=some { cls:=.type "list",data:=.seq #[] c₀ })
   (hR:∀h' tk acc c,(∀b o,b≠S->s.heap.get? b=some o->h'.get? b=some o)->h'.get? S=some { cls:=.type "list",dict:=none,data:=.seq acc c,slots:=#[] } ->
     ItemsOf (fun i v=>∃k x,kvs[i]? = some (k,x)/\knd.is k v=true) acc kvs.length->R (.ok (.ret res)) { s with heap:=h',toks:=tk }) :
   wpAny (model prog w) A.in1 (Builtin.List.listExtendWith (.ref S) (.ref d) res)
     (fun fin s'=>match fin with | .done f=>R (.ok f) s' | .again c'=>c'.quiet=true/\codeAny (model prog w) A c' R s') (fun e s'=>R (.error e) s') s:=by
 have dlt:=hm.lt_size;have slt:S<s.heap.objs.size:=z58 hS;have sd:S≠d:=fun e=>by obtain⟨o,es,ho,hc,hdat,_⟩:=hm;rw[<-e,hS]at ho;cases ho;cases hdat
 have si:S≠s.heap.objs.size:=z56 slt;have di:d≠s.heap.objs.size:=z56 dlt;have sf:S∉[s.heap.objs.size,d]:=fun z=>by
   rcases z5y.mp z with z | z
   · exact si z
   · exact sd (z6a.mp z)
 have W:=(Walks.dictKeys (prog:=prog) (w:=w) (A:=A.in1) (knd:=knd) hh s.heap.objs.size d di kvs ep).toS;have key:∀(h:Heap) (c₁ tk:Nat),h.IsKeyIter s.heap.objs.size d 0 kvs.length ep/\h.DictAt knd d kvs ep->(∀b o,b≠S->s.heap.get? b=some o->h.get? b=some o) ->
     h.get? S=some { cls:=.type "list",data:=.seq #[] c₁ }->codeAny (model prog w) A (.builtin "list.extend.loop" ⟨[.ref S,.ref s.heap.objs.size,res],[]⟩) R { s with heap:=h,toks:=tk }:=by
   intro h c₁ tk hit hk hS₁;refine codeAny_extend_loopS W (by rw[z7b];omega) S sf res kvs.length 0 _ #[] c₁ rfl (z66 _) hit hS₁ (ItemsOf.nil _) fun s' acc' c' hmv hS' hacc=>?_;rw[Moved.eq_with hmv];refine hR s'.heap s'.toks acc' c' (fun b o hb e=>hmv.heap b o (fun hx=>?_) (hk b o hb e)) hS' hacc;rcases z5y.mp hx with z | z
   · exact hb z
   · exact absurd (z58 e) (by rw[z6a.mp z];exact z72 _)
 unfold Builtin.List.listExtendWith;refine z5o (qbe (T:="dict") hm.dictOf.typeIs ?_);have h1:Builtin.List.listSameRef (.ref S) (.ref d)=false:=by simp[Builtin.List.listSameRef,sd]
 have h2:(Value.type "dict"==Value.type "list")=false:=by decide
 have h3:(Value.type "dict"==Value.type "tuple")=false:=by decide
 simp only[h1,h2,h3,Bool.or_false,z50,z61];refine z5o (wpAny_pyIter_dict hd hm ?_);generalize hio:({ cls:=.type "dict_keyiterator",data:=.fields #[.ref d,.int 0 0,.int kvs.length 0,.int ep 0] }:Obj)=io;have it1:(s.heap.push io).IsKeyIter s.heap.objs.size d 0 kvs.length ep:=⟨io,z6o _ (by subst hio;rfl),by subst hio;rfl,by subst hio;rfl⟩
 have dm1:(s.heap.push io).DictAt knd d kvs ep:=hm.push io;refine z5o (wpAny_holding (zoq hd dm1.dictOf hl fun b tk=>?_));have hS₁:=z5t io hS;refine wpAny_ite_split (fun _=>?_) (fun _=>z52 ⟨plainId_quiet qa2 _,key _ c₀ _ ⟨it1,dm1⟩ (fun b o _ e=>z5t _ e) hS₁⟩);refine z5o (wpAny_rule ?_);refine z5o ?_;show wpAny _ _ (updateSeq S (·.push .none) >>= fun _=>updateSeq S (·.pop)) _ _ _;refine z5o (wpAny_updateSeq hS₁ rfl ?_);have hS₂:=z8c (Obj.mapSeq (·.push Value.none)) hS₁ rfl;refine wpAny_updateSeq (hz:=by seq_fits) hS₂ rfl ?_;have hS₃:=z8c (Obj.mapSeq (·.pop)) hS₂ rfl;have oth:∀b o,b≠S->(s.heap.push io).get? b=some o->(((s.heap.push io).update S (Obj.mapSeq (·.push Value.none))).update S (Obj.mapSeq (·.pop))).get? b=some o:=fun b o hb e=>(z77 _ _ (z7s hb)).trans ((z77 _ _ (z7s hb)).trans e);exact z52 ⟨plainId_quiet qa2 _,key _ _ _ ⟨it1.at fun o e=>oth _ o (z7s si) e,dm1.at' fun o e=>oth _ o (z7s sd) e⟩ (fun b o hb e=>oth b o hb (z5t _ e)) hS₃⟩
theorem zea{Q:zVP}(hh:A.handled=none)(hd:(d==sysModules)=false)(hm:s.heap.DictAt knd d kvs ep)(hl:kvs.length<=2^24)
   (hQ:∀h' tk acc c,(∀b o,s.heap.get? b=some o->h'.get? b=some o)->h'.get? s.heap.objs.size=some { cls:=.type "list",dict:=none,data:=.seq acc c,slots:=#[] }->ItemsOf (fun i v=>∃k x,kvs[i]? = some (k,x)/\knd.is k v=true) acc kvs.length->Q (.ref s.heap.objs.size) { s with heap:=h',toks:=tk }) :
   wpAny (model prog w) A (call (.type "list") [.ref d]) Q E s:=by
 refine callType_codes (Q₁:=fun obj s₁=>obj=.ref s.heap.objs.size/\s₁={ s with heap:=s.heap.push { cls:=.type "list",data:=.seq #[] } }) PySem.F.called_list (PySem.F.typeCall_list_1 _) PySem.F.entry_list_init (code_list_new _ ⟨rfl,rfl⟩) fun obj s₁ h₁=>?_;obtain⟨rfl,rfl⟩:=h₁;have hS:(s.heap.push { cls:=.type "list",data:=.seq #[] }).get? s.heap.objs.size=some { cls:=.type "list",data:=.seq #[] }:=z6o _ rfl;have sd:d≠s.heap.objs.size:=z56 hm.lt_size;have hm1:=hm.push { cls:=.type "list",data:=.seq #[] };have kp:∀b o,s.heap.get? b=some o->(s.heap.push { cls:=.type "list",data:=.seq #[] }).get? b=some o:=fun b o e=>z5t _ e;generalize s.heap.push { cls:=.type "list",data:=.seq #[] }=hp at hS hm1 kp ⊢;refine⟨⟨_,hS,rfl⟩,PySem.F.args_list_init_2 _ _,?_⟩;show wpAny _ _ (do let old <-Builtin.List.listItems (.ref s.heap.objs.size);Builtin.List.listUpdate (.ref s.heap.objs.size) (fun _=>#[]);letGo old.toList.reverse;Builtin.List.listExtendWith (.ref s.heap.objs.size) (.ref d) .none) _ _ _;refine z5o (qau hS rfl ?_);refine z5o (listUpdate_at hS rfl ?_);have hS2:=z8c (Obj.mapSeq (fun _=>(#[]:Array Value))) hS rfl;have oth:∀b o,b≠s.heap.objs.size->hp.get? b=some o->(hp.update s.heap.objs.size (Obj.mapSeq (fun _=>(#[]:Array Value)))).get? b=some o:=fun b o hb e=>(z77 _ _ (z7s hb)).trans e;refine z5o (wpAny_letGo ?_);refine zr4 (A:=A.in1) (s:={ s with heap:=hp.update s.heap.objs.size (Obj.mapSeq (fun _=>(#[]:Array Value))) }) hh hd (hm1.at' fun o e=>oth d o sd e) hl s.heap.objs.size .none _ hS2 fun h' tk acc c k1 k2 k3=>?_;exact⟨rfl,hQ h' tk acc c (fun b o e=>k1 b o (z56 (z58 e)) (oth b o (z56 (z58 e)) (kp b o e))) k2 k3⟩
end
def zkk(f:E):E:=fun ev S=>(f ev S).bind fun p=>match p.1 with
 | .obj a=>(match p.2[a]? with
   |some (.dct kvs)=>if kvs.length<=100000 then some (.lst (kvs.map fun q=>.int q.1),p.2)else none
   |_=>none)
 |_=>none
theorem zgm{α:Type}{K:zFr}{mg:zMg}{ρ:List Addr}{H:Hp}:∀kvs:List (Int×α),RepL K mg ρ H (kvs.map fun q=>D.int q.1) (kvs.map fun q=>V.int q.1)
 | []=>RepL.nil
 |_::kvs=>RepL.cons (by unfold Rep;rfl) (zgm kvs)
section
variable {X:Cx}{e:Expr}{f:E}{p pos:Pos}
theorem zlz(hc:X.calm=true):CallR X (.type "list") (fun xs H Q=>∃a kvs,xs=[.ref a]/\H a=some (.dK kvs)/\kvs.length<=100000/\∀l,H l=none->Q (.ref l) (upd H l (.lst (kvs.map fun q=>kV q.1)))):=by
 intro pins s σ H xs us Q I r h;obtain⟨a,kvs,rfl,ha,hl,q⟩:=h;obtain⟨u,rfl,rx⟩:=zqi r;cases rx;obtain⟨z,hs,vs,kv,hd⟩:=z0x I.hok ha;obtain⟨ep,hda⟩:=hd.dictAt;have lv:=kv.length;refine zea (I.ok.hd hc) hs hda (by omega) fun h' tk acc c kp e hi=>?_;have rv:Vals (kvs.map fun q=>kV q.1) acc.toList:=by
   have hk:=kv.keys;have:∀(n:Nat) (xs:List V) (us:List Value),xs.length=us.length->(∀j x u,xs[j]? = some x->us[j]? = some u->RelV x u)->Vals xs us:=fun n xs=>by
     induction xs with
     |nil=>intro us hl _;cases us with | nil=>exact .nil | cons _ _=>cases hl
     | cons x xs ih=>intro us hl hh;cases us with
       |nil=>cases hl
       |cons u us=>exact .cons (hh 0 x u rfl rfl) (ih us (z9o hl) fun j y v e1 e2=>hh (j+1) y v e1 e2)
   refine this 0 _ _ (by have h1:acc.toList.length=acc.size:=Array.length_toList;rw[z6s,h1,hi.1];first | exact lv | exact lv.symm | (simp at lv ⊢;omega)) fun j x u e1 e2=>?_;rw[z65]at e2;obtain⟨k,y,e3,e4⟩:=hi.2 j u e2;have gk:(vs.map (·.1))[j]?.map kV=some x:=by rw[<-hk,z6u,Option.map_map];rw[z6u]at e1;exact e1
   rw[z6u,e3]at gk;cases gk;exact zu6 e4
 have z2:(kvs.map fun q=>kV q.1).length<=sizeLine:=by rw[z6s];exact z
 exact⟨.ref s.heap.objs.size,_,I.laid (t':=tk) kp (z5p _) (show ObjOk X.prog X.w _ h' _ (.lst (kvs.map fun q=>kV q.1)) from⟨z2,acc.toList,c,rv,by rw[Array.toArray_toList];exact e⟩),rfl,q _ (I.hok.fresh (z5p _))⟩
theorem zr0(hm:X.mg "list"=none)(he:FE X e f)(hc:X.calm=true:=by rfl)(hg:Gl X "list":=by rfl)(hs:starEach [e] X.env=(false,eval e X.env)::starEach [] X.env:=by exact qd rfl)(hpl:(backTo pos (starEach [] X.env)).any (·.1)=false:=by exact qv rfl) :
   FE X (.Call (.Name "list" p) [e] [] pos) (zkk f) :=
 qz (zns (zlz hc) hg hm zp2 (zb he zd hs) (by decide) (by decide) hs hpl) fun σ H Q h=>by
   obtain⟨ρ,ev,S,d,S',hE,hS,hf,k⟩:=h;obtain⟨⟨x,S1⟩,q1,hf⟩:=zw hf;dsimp only at hf;split at hf
   · rename_i a;split at hf
     · rename_i kvs hd;split at hf
       · rename_i hl;cases hf;refine⟨ρ,ev,S,[.obj a],S',hE,hS,by unfold aC;rw[q1];rfl,fun vs ρ1 H1 E1 hS1 r1=>?_⟩;obtain⟨v,rfl,rx⟩:=one r1;unfold Rep at rx;obtain⟨b,rfl,hb⟩:=rx;obtain⟨ws,m1,m2,m3⟩:=hS1.ob a _ b hd hb;have lw:ws.length=kvs.length:=by have:=z7k List.length m2;simpa using this
         refine⟨b,ws,rfl,m1,by omega,fun l hn=>k _ ρ1 _ (E1.trans (jx hS1 _ hn)) (hS1.new _ hn) (Rep.lst (s:=hS1) hn ?_)⟩;have e1:(ws.map fun q=>kV q.1)=kvs.map fun q=>V.int q.1:=by
           have:ws.map (fun q=>kV q.1)=(ws.map (·.1)).map kV:=by rw[z8g];rfl
           rw[this,m2,z8g];rfl
         rw[e1];exact zgm kvs
       · cases hf
     · cases hf
   · cases hf
end
end F
namespace F
open PySem L2 PySem.Spec PyProof.Rows
def zaj:D->D->Option D
 | a,.lst ds=>(match zci a,zlq ds with
   |some x,some xs=>some (.bl (!inV x xs))
   |_,_=>none)
 |_,_=>none
def zai:D->D->Option D
 | .int x,.int n=>some (.bl (!decide (0<=x/\x<n)))
 |_,_=>none
section
variable {prog:Program}{w:World}{A:Around}{E:zVP}{s:Shared}
theorem zih{r:Addr}{n x:Int}{t u v tx:Tok}{Q:zVP}(hr:IsRange s.heap r 0 n 1 t u v)(h:Q (.bool (!decide (0<=x/\x<n))) s) :
   wpAny (model prog w) A (compareOp .NotIn (.int x tx) (.ref r)) Q E s:=by
 have hT:s.TypeIs (.ref r) "range":=⟨_,hr,rfl⟩
 show wpAny _ _ (do return .bool (!(<-contains (.ref r) (.int x tx)))) Q E s;refine z5o (wpAny_contains_slot hT F.slot_range_contains (wpAny_call_entry F.slot_range_contains hT F.entry_range_contains ?_ (F.args_range_contains_2 _ _)));show wpAny _ _ (rule "range.contains.reckoned" >>= fun _=>Builtin.Range.rangeFields (.ref r) >>= _) _ _ s;refine z5o (wpAny_rule ?_);refine z5o ?_;unfold Builtin.Range.rangeFields;refine z5o (z91 hr rfl (x:=.int 0 t) rfl ?_);show wpAny _ _ (field (.ref r) 1 >>= _) _ _ s;refine z5o (z91 hr rfl (x:=.int n u) rfl ?_);show wpAny _ _ (field (.ref r) 2 >>= _) _ _ s;refine z5o (z91 hr rfl (x:=.int 1 v) rfl ?_);refine z52 ?_;refine z52 ⟨_,rfl,z52 (z52 ?_)⟩;have e:(Builtin.Range.rangePlace? 0 n 1 x).isSome=decide (0<=x/\x<n):=by
   unfold Builtin.Range.rangePlace?;by_cases c:0<=x/\x<n
   · simp[c,Int.emod_one]
   · simp[c]
 show Q (.bool (!(Builtin.Range.rangePlace? 0 n 1 x).isSome)) s;rw[e];exact h
end
section
variable {X:Cx}{a b:Expr}{f g:E}{p pos pos':Pos}{ta tb:TE}
def zie:R2:=rI0 fun i j=>.bl (!decide (0<=i/\i<j))
theorem znt(hg:Gl X "range")(hm:X.mg "range"=none)(ha:PE X a ta)(hb:PE X b tb)(hs:starEach [b] X.env=[(false,eval b X.env)]:=by rfl):PC X .NotIn a (.Call (.Name "range" p) [b] [] pos) (tOp zie ta tb):=by
 intro pins s σ H Q I h;refine thn (ha pins s σ H _ I h) fun v s1 ⟨x,H1,I1,r1,q1⟩=>?_;have q1':zx3 tb z2d σ H1 (fun vs H2=>match vs with | [y]=>zie x y H2 Q | _=>False):=q1;refine Call_ (zgz I1 hg hm boot_range (z83 (thn ((znv hb ztg (by rw[hs];rfl)) pos pins s1 σ H1 _ I1 q1') fun us s2 ⟨vs,H2,I2,r2,q2⟩=>?_) hs rfl));cases r2 with
 |nil=>exact q2.elim
 | cons ry rr=>
   cases rr with
   |cons _ _=>exact q2.elim
   | nil=>
     obtain⟨i,j,rfl,rfl,q⟩:=q2;obtain⟨ti,rfl⟩:=r1;obtain⟨t,rfl⟩:=ry;refine call_range_1 (zih (IsRange.new ..) ⟨.bl _,H2,?_,rfl,q⟩);exact I2.kept fun b o e=>z5t _ e
theorem zo7(hm:X.mg "range"=none)(ha:FE X a f)(hb:FE X b g)(hg:Gl X "range":=by rfl)(hs:starEach [b] X.env=[(false,eval b X.env)]:=by rfl)(h1:behindInMarks .NotIn (.Call (.Name "range" p) [b] [] pos)=false:=by rfl) :
   FB X (.Compare a [.NotIn] [.Call (.Name "range" p) [b] [] pos] pos') (bE (e2 zai f g)) :=
 zc8 (zyq (znt hg hm ha hb hs) h1) fun _ _ _ h=>zul (fun _ h=>t2 (R:=zie) (op:=fun _=>zai) (fun ρ H S x y dx dy d Q hS rx ry e k=>by
   unfold zai at e;dsimp only at e;split at e
   · cases e;obtain rfl:x=V.int _:=rx;obtain rfl:y=V.int _:=ry;exact⟨_,_,rfl,rfl,k _ H (Ext.refl _ _) hS rfl⟩
   · cases e) h) h
theorem zk7{K:zFr}{mg:zMg}:zga K mg (rIn K true) (fun _=>zaj):=by
 intro ρ H S x y dx dy d Q hS rx ry e k;dsimp only at e;unfold zaj at e;split at e
 · rename_i ds;split at e
   · rename_i fx fs h1 h2;cases e;obtain⟨rfl,f1⟩:=jr h1 rx;obtain⟨p,vs,rfl,t,r⟩:=ry.refL;obtain⟨rfl,f2⟩:=zg7 h2 r;exact⟨p,_,rfl,.inl t.sq,f1,f2,k _ H (Ext.refl _ _) hS rfl⟩
   · cases e
 · cases e
theorem zo8(ha:FE X a f)(hb:FE X b g)(hm:behindInMarks .NotIn b=false:=by rfl):FB X (.Compare a [.NotIn] [b] pos) (bE (e2 zaj f g)):=zaz zgr zk7 ha hb hm
end
end F
namespace F
open PySem L2 PySem.Spec PySem.Calls PyProof.Rows PySem.W
structure FnOkH (P:Program) (w:World) (K:Frag) (mg:zMg) (base:Heap) (k:Nat) (f:Addr) (fd:FuncData) (ps:List Str) (sp:Sp):Prop where
 len:∀vs H Q E,sp vs H Q E->vs.length=ps.length
 run:∀(A:Around) (outer:List Env) (s:Shared) (H:Hp) (args:Args) (us:List Value) (vs:List V) (Q:VK) (E:XK),Room k { A with handled:=none }->Env0 P w K mg base A outer s H->BindsTo s fd args (ps.zip us)->Vals vs us->sp vs H Q E ->
   codeAny (model P w) A (.call (.ref f) args) (CR CX0 outer P w H s Q E) s
structure CalH (P:Program) (w:World) (K:Frag) (mg:zMg) (base:Heap) (k:Nat) (x:Str) (g:G):Prop where
 ex:∃(f:Addr) (fd:FuncData) (ps:List Str),FnOkH P w K mg base k f fd ps (spG K mg g)/\mg x=some (.ref f)/\keepIn K (.ref f)=true/\Binds K fd ps []
abbrev z1i(P:Program)(w:World)(K:Frag)(mg:zMg)(base:Heap)(N:List Str)(qual:Str)(st:Stmt)(b:C):Prop :=
 ∀(f:Addr) (cdv:Value) (A:Around) (outer:List Env) (s:Shared) (H:Hp) (E:XK) (hr:Option Value×(zVP)),
     FSs (Cx.inExc (zca CX0 P w K mg base N qual (zh st) f cdv A outer s H E) hr.1 hr.2) (j5 st) b
section
variable {P:Program}{w:World}{K:Frag}{mg:zMg}{base:Heap}{x qual:Str}{st:Stmt}{N ps:List Str}{k:Nat}{b:C}{dV:Value}{f:Addr}{fd:FuncData}{g:G}
theorem FunD.okH(F:FunD K x qual st f fd dV)(S:FnScope N ps (zh st))(hbody:z1i P w K mg base N qual st b):FnOkH P w K mg base (k+1) f fd ps (spG K mg (z7 N.length ps.length b)):=by
 obtain⟨oc,od,kV,doc,pm,an,cdv,ct,osl,rfl,lk,hcd⟩:=F.ex;have len:∀vs H Q E,spG K mg (z7 N.length ps.length b) vs H Q E->vs.length=ps.length:=fun vs H Q E h=>by obtain⟨ρ,ds,S,d,S',r,hS,hf,k⟩:=h;rw[<-r.length];exact zhn hf
 refine⟨len,fun A outer s H args us vs Q E hr e0 hb r hsp=>?_⟩;have hl:=len _ _ _ _ hsp;have KX:K.In s.heap:=e0.mod.kin.keeps fun b o e=>(e0.bs b o e).1;have lim:s.heap.NoLimit:=e0.mod.nolimit.keeps fun b o e=>(e0.bs b o e).1;have hkind:∀y∈ps.zip us,(zh st).names.lookup y.1=some .local\/((zh st).names.lookup y.1=some .cell/\((cellsFrom (s.heap.objs.size+1) (zh st).names []).lookup y.1).isSome=true):=fun⟨n,v⟩ hy=>by
   rcases S.par n (z7w hy).1 with q | q
   · exact .inl q
   · exact .inr ⟨q,cellsFrom_some _ _ _ (.inl q)⟩
 have e1:Env0 P w K mg base { A with handled:=none } outer s H:=⟨e0.frames,e0.mod,e0.bs,e0.bsz,e0.funs,e0.frf,e0.hok,e0.bare⟩
 refine z96 (show A.depth<recursionLimit from hr.depth) (KX _ _ lk) rfl S.co S.gen rfl (codeRec_of KX hcd) (hb _ _ _ _ ?_);refine z9c S.kind hkind fun env he s1 x=>?_;subst he;refine⟨lim.keeps x.toInCall.keep,codeAny_func ?_⟩;have I:=Inv.toExc (zdp (CX:=CX0) (E:=E) S hr.hd e1 hl r x) A.handled (fun _ _=>False);have ht:=hbody f cdv { A with handled:=none } outer s H E (A.handled,fun _ _=>False) [] s1 (start N vs) H _ I (zp3 hsp);have hA:(Cx.inExc (zca CX0 P w K mg base N qual (zh st) f cdv { A with handled:=none } outer s H E) A.handled fun _ _=>False).A=A.deeper (envOfC qual (zh st) s.heap.objs.size f cdv):=by obtain⟨h,a,b,c,d⟩:=A;cases h<;>rfl
 rw[hA]at ht;refine z73 ht (fun fl s' hs=>?_) fun e s' hs=>hs.elim;cases fl with
 | ret u=>
   obtain⟨v,σ',H',J,rv,q⟩:=hs;exact⟨v,H',J.os,J.bare,J.base,J.hok,rv,q⟩
 | next=>
   obtain⟨σ',H',J,q⟩:=hs;exact⟨V.non,H',J.os,J.bare,J.base,J.hok,rfl,q⟩
 | brk=>
   obtain⟨_,_,_,q⟩:=hs;exact False.elim q
 | cont=>
   obtain⟨_,_,_,q⟩:=hs;exact False.elim q
theorem HasDef.calH(h:HasDef K mg x st 0)(S:FnScope N ps (zh st))(hb:zxa x x st ps)(hbody:z1i P w K mg base N x st b):CalH P w K mg base (k+1) x (z7 N.length ps.length b):=by obtain⟨f,fd,dV,F,hm,rfl⟩:=h.ex;exact⟨f,fd,ps,F.okH S hbody,hm,F.kp,F.binds0 hb⟩
theorem CalH.frz(c:CalH P w K mg base k x g):CalH P w K mg base k x (frz g):=by obtain⟨f,fd,ps,FF,r⟩:=c.ex;exact⟨f,fd,ps,⟨fun vs H Q E h=>FF.len vs H Q E (zox vs H Q E h),fun A outer s H args us vs Q E hr e0 hb hv h=>FF.run A outer s H args us vs Q E hr e0 hb hv (zox vs H Q E h)⟩,r⟩
end
section
variable {X:Cx}{k:Nat}{x:Str}{g:G}{e:Expr}{es:List Expr}{a:As}{p pos:Pos}{v:Option Value}{xe:zVP}
theorem zr2(cal:CalH X.prog X.w X.K X.mg X.base k x g)(hr:Room k X.A)(ha:FA (Cx.inExc X v xe) (e::es) a)(hg:Gl X x:=by rfl)(hdb:(x==("__debug__":Str))=false:=by decide)
   (he:starEach (e::es) X.env=(false,eval e X.env)::starEach es X.env:=by exact qd rfl) (hpl:(backTo pos (starEach es X.env)).any (·.1)=false:=by exact qv rfl) :
   FE (Cx.inExc X v xe) (.Call (.Name x p) (e::es) [] pos) (zk g a):=by
 obtain⟨f,fd,ps,F,hm,hk,hb⟩:=cal.ex;refine qz (t:=zqo (spG X.K X.mg g) [] E0 (tAs X.K X.mg a)) ?_ fun σ H Q h=>ze3 (dds:=[]) (fun _ _=>RepL.nil) (fun args S r e=>by rw[z6e];exact e) h;intro pins s σ H Q I h;refine z7y (y9 I hg hm ?_ hdb);refine callWith_K (h₀:=X.base) I.ok.mod.kin hk (thn (ha pos pins s σ H _ I h) fun us s1 ⟨vs,H1,I1,r,q⟩=>⟨I1.kIn,?_⟩) he hpl;have r2:Vals (vs++[]) (us++[]):=r.append .nil;have hl:(us++[]).length=ps.length:=by rw[<-r2.length];exact F.len _ _ _ _ q
 refine qa4 (z95 (F.run (Cx.inExc X v xe).A (Cx.inExc X v xe).stack s1 H1 ⟨us,[]⟩ (us++[]) (vs++[]) Q E0 ⟨rfl,hr.dp,hr.un⟩ I1.env0 (hb s1 us I1.kIn hl) r2 q) fun r s' hq=>?_);cases r with
 |error e=>exact hq.elim
 | ok fl=>
   cases fl with
   |ret u=>exact I1.after hq
   |next=>exact False.elim hq
   |brk=>exact False.elim hq
   |cont=>exact False.elim hq
end
end F
namespace Mt
open PySem L2 F
def ad(_:Nat)(_ _:D):D:=.non
theorem str_len(a b:Str):(a++b).length=a.length+b.length:=strLen_append a b
theorem zsv(k:Nat)(x y z:D):ad k (ad k x y) z=ad k x (ad k y z):=rfl
def zb5(k:Nat):List D->D
 | []=>.non
 |t::r=>if k=0 then .non else r.foldl (ad k) t
theorem zmt(ts:List D):zb5 0 ts=.non:=by cases ts<;>rfl
theorem zo1(k:Nat)(a:D):∀(r:List D) (b:D),r.foldl (ad k) (ad k a b)=ad k a (r.foldl (ad k) b)
 | [],_=>rfl
 | c::r,b=>by show r.foldl (ad k) (ad k (ad k a b) c)=ad k a (r.foldl (ad k) (ad k b c));rw[zsv,zo1 k a r]
theorem yi{k:Nat}(hk:k≠0){xs ys:List D}(hx:xs≠[])(hy:ys≠[]):zb5 k (xs++ys)=ad k (zb5 k xs) (zb5 k ys):=by
 cases xs with
 |nil=>exact absurd rfl hx
 | cons x xs=>
   cases ys with
   |nil=>exact absurd rfl hy
   | cons y ys=>
     show(if k=0 then D.non else (xs++y::ys).foldl (ad k) x)=ad k (if k=0 then D.non else xs.foldl (ad k) x) (if k=0 then D.non else ys.foldl (ad k) y);rw[z6c hk,z6c hk,z6c hk,List.foldl_append,List.foldl_cons,zo1]
theorem zbe{k:Nat}(hk:k≠0)(t:D):zb5 k [t]=t:=by show(if k=0 then D.non else t)=t;rw[z6c hk]
def Th(_ _:Nat)(_:D):Prop:=False
def Thing(k:Nat)(d:D):Prop:=k=0/\((∃i,d=.int i)\/∃i j,d=.tup [.int i,.int j])
theorem Th.ad{k n m:Nat}{x y:D}(hx:Th k n x)(_:Th k m y):Th k (n+m) (ad k x y):=hx
theorem Thing.th{k:Nat}{d:D}(hk:k≠0)(h:Thing k d):Th k 1 d:=hk h.1
theorem zmr{k:Nat}(hk:k≠0):∀{ts:List D},ts≠[]->(∀t∈ts,Thing k t)->Th k ts.length (zb5 k ts)
 | [],h,_=>absurd rfl h
 | [t],_,h=>by rw[zbe hk];exact(h t (by simp)).th hk
 | t::u::r,_,h=>by rw[show t::u::r=[t]++(u::r)from rfl,yi hk (by simp) (by simp),zbe hk];have:=((h t (by simp)).th hk).ad (zmr hk (ts:=u::r) (by simp) fun x hx=>h x (z5u _ hx));rw[Nat.add_comm]at this;exact this
def ord(a:Bool)(xs:List D):List D:=if a=true then xs.reverse else xs
theorem x9(a:Bool)(xs:List D):(ord a xs).length=xs.length:=by unfold ord;split<;>simp
def mkD(num:Int)(a:Bool)(l t r:D)(sz ht:Int)(to ba:D):D:=.tup [.int num,.bl a,l,t,r,.int sz,.int ht,to,ba]
inductive Mk (k:Nat):D->List D->Nat->Prop where
 |non:Mk k .non [] 0
 | node {num:Int}{a:Bool}{l t r:D}{lt rt:List D}{lh rh:Nat}:Mk k l lt lh->Mk k r rt rh->Thing k t->lh<=rh+1->rh<=lh+1 ->
   Mk k (mkD num a l t r (lt.length+1+rt.length:Nat) (max lh rh+1:Nat) (zb5 k (ord a (lt++t::rt))) (zb5 k (ord a (lt++t::rt)).reverse)) (ord a (lt++t::rt)) (max lh rh+1)
theorem Mk.things{k d ts h}(m:Mk k d ts h):∀t∈ts,Thing k t:=by
 induction m with
 |non=>intro t ht;cases ht
 | @node num a l t r lt rt lh rh ml mr ht _ _ il ir=>
   intro x hx;have:x∈lt++t::rt:=by
     unfold ord at hx;split at hx
     · exact qaa.mp hx
     · exact hx
   rcases z6i.mp this with q | q
   · exact il x q
   · rcases z5y.mp q with rfl | q
     · exact ht
     · exact ir x q
end Mt
namespace Pg
open PySem L2 F Mt
variable {k:Nat}{d l r t:D}{ts lt rt:List D}{h lh rh:Nat}{S S1:Sto}{ev e:Ev}
theorem zsz:(2:Nat)<=sizeLine:=by decide
theorem zpe(i j:Int):zbc (.int i) (.int j)=some (.bl (i==j)):=rfl
theorem zn6(i j:Int):zbz (.int i) (.int j)=some (.bl (!(i==j))):=rfl
theorem zm3{i:Nat}{a b:MO}(h:S[i]? = some a):(S.set i b)[i]? = some b:=z6r (z5s.mp h).1
theorem zya{i j:Nat}(hij:i≠j)(b:MO):(S.set i b)[j]? = S[j]?:=z68 hij
def Ok(c:C)(ev:Ev)(S:Sto):Prop:=∃S',c ev S=some (.rt (.bl true),S')
theorem zn{i:Nat}{f:E}(h:f ev S=some (d,S1)):qm i f ev S=some (.nx (ev.set i (some d)),S1):=by simp[qm,h]
theorem zu{c:B}{a:C}(h:c ev S=some (false,S1)):sIf c a jy ev S=some (.nx ev,S1):=by simp[sIf,h,jy]
theorem qh{c:B}{a b:C}{o:Out}{S2:Sto}(h:c ev S=some (true,S1))(q:a ev S1=some (o,S2)):sIf c a b ev S=some (o,S2):=by simp[sIf,h,q]
theorem jf{f:E}{b:Bool}(h:f ev S=some (.bl b,S1)):bE f ev S=some (b,S1):=by simp[bE,h]
theorem z3x{u:B}{b:Bool}(h:u ev S=some (b,S1)):zhu u ev S=some (!b,S1):=by simp[zhu,h]
theorem z14{u:B}(h:u ev S=some (true,S1)):zhu u ev S=some (false,S1):=by simp[zhu,h]
theorem z5f{u:B}(h:u ev S=some (false,S1)):zhu u ev S=some (true,S1):=by simp[zhu,h]
theorem zkv{u v:B}(h:u ev S=some (false,S1)):zhv u v ev S=some (false,S1):=by simp[zhv,h]
theorem zey{u v:B}{b:Bool}{S2:Sto}(h:u ev S=some (true,S1))(q:v ev S1=some (b,S2)):zhv u v ev S=some (b,S2):=by simp[zhv,h,q]
theorem z1c{u v:B}(h:u ev S=some (true,S1)):bOr u v ev S=some (true,S1):=by simp[bOr,h]
theorem zw0{u v:B}{b:Bool}{S2:Sto}(h:u ev S=some (false,S1))(q:v ev S1=some (b,S2)):bOr u v ev S=some (b,S2):=by simp[bOr,h,q]
theorem e_2{op:D->D->Option D}{f g:E}{x y z:D}{S2:Sto}(h:f ev S=some (x,S1))(q:g ev S1=some (y,S2))(o:op x y=some z):e2 op f g ev S=some (z,S2):=by simp[e2,h,q,o]
theorem qy{op:Sto->D->D->Option D}{f g:E}{x y z:D}{S2:Sto}(h:f ev S=some (x,S1))(q:g ev S1=some (y,S2))(o:op S2 x y=some z):e2s op f g ev S=some (z,S2):=by simp[e2s,h,q,o]
theorem e_1{op:D->Option D}{f:E}{x z:D}(h:f ev S=some (x,S1))(o:op x=some z):e1 op f ev S=some (z,S1):=by simp[e1,h,o]
theorem e_v{i:Nat}(h:ev[i]? = some (some d)):eV i ev S=some (d,S):=by simp[eV,h]
theorem e_k:eK d ev S=some (d,S):=rfl
theorem a_n:aN ev S=some ([],S):=rfl
theorem a_c{f:E}{g:As}{ds:List D}{S2:Sto}(h:f ev S=some (d,S1))(q:g ev S1=some (ds,S2)):aC f g ev S=some (d::ds,S2):=by simp[aC,h,q]
theorem zi{g:G}{a:As}{ds:List D}{S2:Sto}(h:a ev S=some (ds,S1))(q:g ds S1=some (d,S2)):zk g a ev S=some (d,S2):=by simp[zk,h,q]
theorem e_a{op:Sto->List D->Option D}{a:As}{ds:List D}(h:a ev S=some (ds,S1))(o:op S1 ds=some d):eA op a ev S=some (d,S1):=by simp[eA,h,o]
theorem zbx{a:As}{ds:List D}(h:a ev S=some (ds,S1))(hl:ds.length<=16777216):za8 a ev S=some (.tup ds,S1):=by have hz:sizeLine=16777216:=z7b;simp[za8,eA,h,hz,hl]
theorem zr8{a:As}{ds:List D}(h:a ev S=some (ds,S1))(hl:ds.length<=16777216):zr9 a ev S=some (.lst ds,S1):=by have hz:sizeLine=16777216:=z7b;simp[zr9,eA,h,hz,hl]
theorem zt2{a:As}{ds:List D}(h:a ev S=some (ds,S1))(hl:ds.length<=16777216):zpk a ev S=some (.obj S1.length,S1++[.lst ds]):=by have hz:sizeLine=16777216:=z7b;simp[zpk,h,hz,hl]
theorem xc{c m:Str}{g:G}{f:E}{a:As}{i:Nat}{fs:List (Str×D)}{ds:List D}{S2 S3:Sto}(h:f ev S=some (.obj i,S1))(hi:zds c S1 (.obj i)=some (i,fs))(hm:fs.lookup m=none)(ha:a ev S1=some (ds,S2))(q:g (.obj i::ds) S2=some (d,S3)) :
   xw c m g f a ev S=some (d,S3):=by simp[xw,h,hi,hm,ha,q]
theorem z3o{c n:Str}{f:E}{i:Nat}{fs:List (Str×D)}(h:f ev S=some (.obj i,S1))(hi:zds c S1 (.obj i)=some (i,fs))(hm:fs.lookup n=some d):zxf c n f ev S=some (d,S1):=by simp[zxf,h,hi,hm]
theorem z5c{f:E}{a b:Pt}{x:D}{lo hi:Option Int}{S2 S3:Sto}(h:f ev S=some (x,S1))(ha:a ev S1=some (lo,S2))(hb:b ev S2=some (hi,S3))(o:z21 x lo hi=some d):eSl f a b ev S=some (d,S3):=by simp[eSl,h,ha,hb,o]
theorem p_n:pN ev S=some (none,S):=rfl
theorem p_e{f:E}{i:Int}(h:f ev S=some (.int i,S1)):pE f ev S=some (some i,S1):=by simp[pE,h]
theorem z0p{f g:E}{S2:Sto}(h:f ev S=some (.bl true,S1))(q:g ev S1=some (d,S2)):zxg f g ev S=some (d,S2):=by simp[zxg,h,q]
theorem z0q{f g:E}(h:f ev S=some (.bl false,S1)):zxg f g ev S=some (.bl false,S1):=by simp[zxg,h]
theorem z0o{f:E}{b:Bool}(h:f ev S=some (.bl b,S1)):z0r f ev S=some (.bl !b,S1):=by simp[z0r,e1,h]
theorem add_int(i j:Int):qa (.int i) (.int j)=some (.int (i+j)):=rfl
theorem sub_int(i j:Int):y7 (.int i) (.int j)=some (.int (i-j)):=rfl
theorem zw6{xs ys:List D}(h:xs.length+ys.length<=16777216):qa (.lst xs) (.lst ys)=some (.lst (xs++ys)):=by have hz:sizeLine=16777216:=z7b;simp[qa,hz,h]
theorem zf6{x:D}{xs ys:List D}(h:(x::xs).length+ys.length<=16777216):qa (.tup (x::xs)) (.tup ys)=some (.tup (x::xs++ys)):=by have hz:sizeLine=16777216:=z7b;simp only[qa,hz,z55 h]
def pl:Nat->D->Bool
 |_,.non=>true
 |_,.bl _=>true
 |_,.int _=>true
 |_,.str _=>true
 |n+1,.tup ds=>ds.all (pl n)
 |n+1,.lst ds=>ds.all (pl n)
 |_,_=>false
theorem zfw{f:D->D->Option Bool}:∀{ds:List D},(∀x∈ds,f x x=some true)->eqL f ds ds=some true
 | [],_=>rfl
 |x::ds,h=>by simp[eqL,h x (by simp),zfw fun y hy=>h y (z5u _ hy)]
theorem zr6:∀{n:Nat}{d:D},pl n d=true->eqN n d d=some true:=by
 intro n
 induction n with
 |zero=>intro d h;cases d<;>first | (cases h;done) | simp[eqN,eqF,zci,eqV]
 | succ n ih=>
   intro d h;cases d with
   | tup ds=>
     have h:ds.all (pl n)=true:=h;exact zfw fun x hx=>ih (z6y.mp h x hx)
   | lst ds=>
     have h:ds.all (pl n)=true:=h;have q:eqL (eqN n) ds ds=some true:=zfw fun x hx=>ih (z6y.mp h x hx);simp[eqN,q]
   |_=>first | (cases h;done) | simp[eqN,eqF,zci,eqV,zol]
theorem zvl:∀{n m:Nat}{d:D},n<=m->pl n d=true->pl m d=true:=by
 intro n
 induction n with
 |zero=>intro m d _ h;cases d<;>first | (cases h;done) | (cases m<;>rfl)
 | succ n ih=>
   intro m d hm h;cases m with
   |zero=>omega
   | succ m=>
     cases d with
     |tup ds=>exact z6y.mpr fun x hx=>ih (by omega) (z6y.mp h x hx)
     |lst ds=>exact z6y.mpr fun x hx=>ih (by omega) (z6y.mp h x hx)
     |_=>first | (cases h;done) | rfl
theorem zq9{x:D}(hx:Thing k x):pl 1 x=true:=by obtain⟨_,⟨i,rfl⟩ | ⟨i,j,rfl⟩⟩:=hx<;>rfl
theorem zzg(h:pl 150 d=true):zbz d d=some (.bl false):=by unfold zbz;rw[zr6 h];rfl
theorem zyx(hts:∀x∈ts,Thing k x):pl 2 (.lst ts)=true:=z6y.mpr fun x hx=>zq9 (hts x hx)
theorem j8{N n:Nat}{c:C}{ds:List D}{S S':Sto}{d:D}(hl:ds.length=n)(h:c (ds.map some++List.replicate (N-ds.length) none) S=some (.rt d,S')):z7 N n c ds S=some (d,S'):=by unfold z7;rw[z55 hl,h]
theorem zt{f:E}(h:f ev S=some (d,S1)):qi f ev S=some (.rt d,S1):=by simp[qi,h]
theorem jb{a b:C}(h:a ev S=some (.rt d,S1)):qb a b ev S=some (.rt d,S1):=by simp[qb,h]
theorem zm{a b:C}{o:Out}{S2:Sto}(h:a ev S=some (.nx e,S1))(q:b e S1=some (o,S2)):qb a b ev S=some (o,S2):=by simp[qb,h,q]
def low:Nat->Nat
 |0=>0
 |1=>1
 |h+2=>low (h+1)+low h+1
theorem zrk:∀h:Nat,low h<=low (h+1)
 |0=>by decide
 |1=>by decide
 | h+2=>by show low (h+2)<=low (h+2)+low (h+1)+1;omega
theorem zfj{a b:Nat}(h:a<=b):low a<=low b:=by
 induction b with
 |zero=>rw[Nat.le_zero.mp h];exact z5p _
 | succ b ih=>
   rcases z7r a (b+1)with q | q
   · exact z6h (ih (by omega)) (zrk b)
   · rw[z8p h q];exact z5p _
theorem zzi{k:Nat}{d:D}{ts:List D}{h:Nat}(m:Mk k d ts h):low h<=ts.length:=by
 induction m with
 |non=>decide
 | @node num a l t r lt rt lh rh ml mr ht h1 h2 il ir=>
   rw[x9,z5n,List.length_cons];rcases Nat.le_total lh rh with q | q
   · rw[qab q];cases rh with
     | zero => have:lh=0:=by omega
               subst this;show 1<=_;omega
     | succ rh=>
       show low (rh+1)+low rh+1<=_;have:=zfj (show rh<=lh by omega);omega
   · rw[Nat.max_eq_left q];cases lh with
     | zero => have:rh=0:=by omega
               subst this;show 1<=_;omega
     | succ lh=>
       show low (lh+1)+low lh+1<=_;have:=zfj (show lh<=rh by omega);omega
theorem zbk{x j:Int}(h:0<j):q9 (.int x) (.int j)=some (.int (x%j)):=by simp[q9,F.opI,z22,h]
theorem zhe{x j:Int}(h:0<j/\j<1073741824):yb (.int x) (.int j)=some (.int (x/j)):=by simp[yb,F.opI,z3q,h]
theorem zgv{x y:Int}(h:-(2^64)<x/\x<2^64):j6 (.int x) (.int y)=some (.int (x*y)):=by simp only[j6,F.opI,z1p];rw[z55 (.inl h)];rfl
theorem zgu{x y:Int}(h:-(2^64)<y/\y<2^64):j6 (.int x) (.int y)=some (.int (x*y)):=by simp only[j6,F.opI,z1p];rw[z55 (.inr (.inl h))];rfl
theorem ziq(S:Sto)(x:MO):(S++[x])[S.length]? = some x:=by simp
end Pg
namespace Pg
open PySem L2 F
noncomputable section
def up:Up:=⟨["TooMany"],["Changed", "NoBalance", "NoMore", "NoName", "NoNumber", "NoPlace", "NoRow", "NoSum", "NoThing", "NoWay", "TooMany"]⟩
def lt_0:LT where
 params:={posonlyargs:=[],args:=[{ arg:="one",annotation:=none,pos:=⟨255,18,255,21⟩:PySem.Arg },{ arg:="other",annotation:=none,pos:=⟨255,23,255,28⟩:PySem.Arg }],vararg:=none,kwonlyargs:=[],kw_defaults:=[],kwarg:=none,defaults:=[]:PySem.Arguments }
 body:=(PySem.Expr.Call
  (func:=(PySem.Expr.Name "before" ⟨255,30,255,36⟩))
  (args:=[(PySem.Expr.Subscript
  (value:=(PySem.Expr.Name "one" ⟨255,37,255,40⟩))
  (slice:=(PySem.Expr.Name "KEY" ⟨255,41,255,44⟩))
  (pos:=⟨255,37,255,45⟩)),(PySem.Expr.Subscript
  (value:=(PySem.Expr.Name "other" ⟨255,47,255,52⟩))
  (slice:=(PySem.Expr.Name "KEY" ⟨255,53,255,56⟩))
  (pos:=⟨255,47,255,57⟩))])
  (keywords:=[])
  (pos:=⟨255,30,255,58⟩))
 scope:={kind:=PySem.ScopeKind.function,names:=[(PySem.Str.ofString "one",PySem.NameKind.local),(PySem.Str.ofString "other",PySem.NameKind.local),(PySem.Str.ofString "before",PySem.NameKind.free),(PySem.Str.ofString "KEY",PySem.NameKind.globalImplicit)],isGenerator:=false,isCoroutine:=false,more:=[]:PySem.Scope }
 qual:=(("by_key":Str)++".<locals>.")++"<lambda>"
 caps:=["before"]
open Classical in
def zd8:LT->Option G:=fun t=>
 none
def tabs:List (Str×Str):=[("by_key",(("by_key":Str)++".<locals>.")++"<lambda>")]
def kf:C :=
 (qb (zlc "Wood" "adding" (eV 0) (eV 1)) (zlc "Wood" "nodes_made" (eV 0) (eK (.int 0))))
def qu:G:=z7 2 2 kf
def zi3:C :=
 (qb (qm 2 (e2 qa (e2 j6 (e2 j6 (eV 1) (eV 1)) (eK (.int 7919))) (eK (.int 17)))) (qb (sIf (bE (e2 zd6 (eA zdj (aC (eV 0) aN)) (eK (.int 0)))) (qm 2 (e2 qa (e2 q9 (e2s qj (eV 0) (e2 q9 (eV 1) (eA zdj (aC (eV 0) aN)))) (e2 zrg (eK (.int 10)) (eK (.int 30)))) (e2 j6 (e2 yb (eV 1) (eA zdj (aC (eV 0) aN))) (eK (.int 104729))))) jy) (qi (e2 q9 (e2 j6 (e2 q9 (e2 qa (e2 j6 (eV 2) (eK (.int 48271))) (e2 j6 (eV 1) (eK (.int 69621)))) (eK (.int 2147483647))) (e2 qa (e2 q9 (eV 2) (eK (.int 65521))) (eK (.int 3)))) (eK (.int 999999937))))))
def z5:G:=z7 3 2 zi3
def zl4:C :=
 (qb (sIf (bE (e2 zd6 (eV 0) (eK (.int 2000)))) (qi (zr9 (aC (eK (.bl true)) (aC (eK (.bl true)) (aC (eK (.bl false)) aN))))) jy) (qi (eV 0)))
def jd:G:=frz (z7 1 1 zl4)
def zf2:C :=
 (qb (qm 3 z0s) (qb (zqw 4 (e2 qa (eK (.int 1)) (e2 q9 (zk z5 (aC (eV 0) (aC (eK (.int 2)) aN))) (eK (.int 4)))) (qb (qm 5 (zk z5 (aC (eV 0) (aC (e2 qa (eK (.int 20)) (eV 4)) aN)))) (sIf (zhv (bE (e2 zb8 (e2 q9 (eV 5) (eK (.int 4))) (eK (.int 2)))) (bE (e2 zd6 (eV 1) (eK (.int 0))))) (zbg (eV 3) (e2 j6 (eV 2) (e2 q9 (e2 yb (eV 5) (eK (.int 4))) (eV 1))) (eK (.bl true))) (qb (qm 6 (e2 j6 (eV 2) (e2 q9 (e2 yb (eV 5) (eK (.int 4))) (e2 qa (eV 1) (eK (.int 9)))))) (zbg (eV 3) (e2 y7 (eV 6) (e2 j6 (e2 q9 (e2 yb (eV 5) (eK (.int 8))) (eK (.int 2))) (e2 qa (e2 j6 (eV 2) (eK (.int 20))) (eK (.int 1))))) (eK (.bl true))))))) (qi (eV 3))))
def x4:G:=z7 7 3 zf2
def zi2:C :=
 (qb (qm 1 (eA (zto up) (aC (eV 0) (aC (za8 (aC (eK (.fn "Changed")) (aC (eK (.fn "NoBalance")) (aC (eK (.fn "NoMore")) (aC (eK (.fn "NoName")) (aC (eK (.fn "NoNumber")) (aC (eK (.fn "NoPlace")) (aC (eK (.fn "NoRow")) (aC (eK (.fn "NoSum")) (aC (eK (.fn "NoWay")) (aC (eK (.fn "NoThing")) aN))))))))))) aN)))) (qi (zr9 (aC (eA (zto up) (aC (eV 0) (aC (eK (.fn "TooMany")) aN))) (aC (eA (zto up) (aC (eV 0) (aC (eK (.ty "ValueError")) aN))) (aC (eV 1) aN))))))
def za6:G:=frz (z7 2 1 zi2)
def zi1:C :=
 (qi (e2 zb8 (eV 0) (eV 1)))
def yo:G:=z7 2 2 zi1
def zf1:C :=
 (sIf (zhu (bE (zhc znz zb8 (eK (.int 0)) (eV 0) (eV 1)))) zc6 jy)
def jl:G:=z7 2 2 zf1
def z07:C :=
 (qb (sIf (bE (e2 zf9 (eV 0) (eK .non))) (qi (eK (.int 0))) jy) (qi (e2s qj (eV 0) (eK (.int 5)))))
def jz:G:=z7 1 1 z07
def z08:C :=
 (qb (sIf (bE (e2 zbc (e2s qj (eV 0) (eK (.int 1))) (eV 1))) (qi (za8 (aC (e2s qj (eV 0) (eK (.int 2))) (aC (e2s qj (eV 0) (eK (.int 3))) (aC (e2s qj (eV 0) (eK (.int 4))) (aC (eK (.bl false)) aN)))))) jy) (qi (za8 (aC (e2s qj (eV 0) (eK (.int 4))) (aC (e2s qj (eV 0) (eK (.int 3))) (aC (e2s qj (eV 0) (eK (.int 2))) (aC (eK (.bl true)) aN)))))))
def zg3:G:=z7 2 2 z08
def zl1(self:G):C :=
 (qb (qm 3 (zk zg3 (aC (eV 0) (aC (eV 1) aN)))) (qb (qm 4 (zk jz (aC (e2s qj (eV 3) (eK (.int 0))) aN))) (qb (sIf (bE (e2 zb8 (eV 2) (eV 4))) (qi (zk (self) (aC (e2s qj (eV 3) (eK (.int 0))) (aC (e2s qj (eV 3) (eK (.int 3))) (aC (eV 2) aN))))) jy) (qb (sIf (bE (e2 zd6 (eV 2) (eV 4))) (qi (zk (self) (aC (e2s qj (eV 3) (eK (.int 2))) (aC (e2s qj (eV 3) (eK (.int 3))) (aC (e2 y7 (e2 y7 (eV 2) (eV 4)) (eK (.int 1))) aN))))) jy) (qi (e2s qj (eV 3) (eK (.int 1))))))))
def zao:Nat->G
 |0=>fun _ _=>none
 |k+1=>z7 5 3 (zl1 (zao k))
def z5e:C :=
 (qb (za3 (zk jl (aC (eV 1) (aC (zk jz (aC (eV 0) aN)) aN)))) (qi (zk (zao 40) (aC (eV 0) (aC (eK (.bl false)) (aC (eV 1) aN))))))
def z1y:G:=z7 2 2 z5e
def ft:Str->Option G:=fun x=>
 if x=Str.ofString "_law_less" then some yo else
 none
open Classical in
def zlw:LT->Option G:=fun t=>
 none
def z3f:E :=
 (xy ft (fun _=>none) zlw (eV 2) (aC (e2s qj (eV 0) (eK (.int 0))) (aC (e2s qj (eV 1) (eK (.int 0))) aN)))
def z1w:G:=zp4 3 3 z3f
open Classical in
def zkr:LT->Option G:=fun t=>
 if t=lt_0 then some z1w else
 none
def zf0:C :=
 (qi (zxg (e2 zb8 (eV 1) (zk jz (aC (eV 0) aN))) (z0r (xy ft zd8 zkr (eV 3) (aC (eV 2) (aC (zk z1y (aC (eV 0) (aC (eV 1) aN))) aN))))))
def ql:G:=z7 4 4 zf0
def zec(self:G):C :=
 (qb (sIf (bE (e2 zf9 (eV 0) (eK .non))) (qi (eK (.int 0))) jy) (qb (qm 4 (zk zg3 (aC (eV 0) (aC (eV 1) aN)))) (qb (sIf (bE (xy ft zd8 zkr (eV 3) (aC (e2s qj (eV 4) (eK (.int 1))) (aC (eV 2) aN)))) (qi (e2 qa (e2 qa (zk jz (aC (e2s qj (eV 4) (eK (.int 0))) aN)) (eK (.int 1))) (zk (self) (aC (e2s qj (eV 4) (eK (.int 2))) (aC (e2s qj (eV 4) (eK (.int 3))) (aC (eV 2) (aC (eV 3) aN))))))) jy) (qi (zk (self) (aC (e2s qj (eV 4) (eK (.int 0))) (aC (e2s qj (eV 4) (eK (.int 3))) (aC (eV 2) (aC (eV 3) aN)))))))))
def xm:Nat->G
 |0=>fun _ _=>none
 |k+1=>z7 5 4 (zec (xm k))
def zl2:C :=
 (qi (zk (xm 40) (aC (eV 0) (aC (eK (.bl false)) (aC (eV 1) (aC (eV 2) aN))))))
def jn:G:=z7 3 3 zl2
def zhm:C :=
 (sIf (bE (e2 zd6 (eV 0) (eK (.int 2000)))) zc6 jy)
def xb:G:=z7 1 1 zhm
def zbj:R :=
 (rIf (bE (e2 zd6 (eV 0) (eK (.int 2000)))) (zjs "TooMany" (aC (z12 (aC (eK (.str (Str.ofString "a make has at most "))) (aC (e1 zxd (eK (.int 2000))) (aC (eK (.str (Str.ofString " things, not "))) (aC (e1 zxd (eV 0)) aN))))) aN)) zyi)
def jg:GR:=zcl 1 1 zbj
def zae:C :=
 (qb (qm 2 (zxf "Wood" "nodes_made" (eV 0))) (qb (zlc "Wood" "nodes_made" (eV 0) (e2 qa (eV 2) (eK (.int 1)))) (qi (e2 qa (za8 (aC (eV 2) aN)) (eV 1)))))
def jv:G:=z7 3 2 zae
def zsl:C :=
 (qb (sIf (bE (e2 zf9 (eV 0) (eK .non))) (qi (eK (.int 0))) jy) (qi (e2s qj (eV 0) (eK (.int 6)))))
def jq:G:=z7 1 1 zsl
def za0:C :=
 (qi (e2 qa (eK (.int 1)) (eA zzj (aC (zk jq (aC (eV 0) aN)) (aC (zk jq (aC (eV 1) aN)) aN)))))
def xk:G:=z7 2 2 za0
def zcc:C :=
 (qi (e2 znz (eA z1g (aC (e2 y7 (zk jq (aC (eV 0) aN)) (zk jq (aC (eV 1) aN))) aN)) (eK (.int 1))))
def xo:G:=z7 2 2 zcc
def zcb:C :=
 (qi (e2 qa (e2 qa (zk jz (aC (eV 0) aN)) (eK (.int 1))) (zk jz (aC (eV 1) aN))))
def kj:G:=z7 2 2 zcb
def z1b:C :=
 (qb (sIf (bE (e2 zf9 (eV 0) (eK .non))) (qi (eK .non)) jy) (qi (e2s qj (eV 0) (eK (.int 8)))))
def zdv:G:=z7 1 1 z1b
def zed:C :=
 (qb (qm 4 (eV 2)) (qb (sIf (bE (e2 ka (eV 3) (eK .non))) (qm 4 (yw ft zd8 (eV 0) (aC (zk zdv (aC (eV 3) aN)) (aC (eV 4) aN)))) jy) (qb (sIf (bE (e2 ka (eV 1) (eK .non))) (qm 4 (yw ft zd8 (eV 0) (aC (eV 4) (aC (zk zdv (aC (eV 1) aN)) aN)))) jy) (qi (eV 4)))))
def ku:G:=z7 5 4 zed
def zww:C :=
 (qb (sIf (bE (e2 zf9 (eV 0) (eK .non))) (qi (eK .non)) jy) (qi (e2s qj (eV 0) (eK (.int 7)))))
def yk:G:=z7 1 1 zww
def zhl:C :=
 (qb (qm 4 (eV 2)) (qb (sIf (bE (e2 ka (eV 1) (eK .non))) (qm 4 (yw ft zd8 (eV 0) (aC (zk yk (aC (eV 1) aN)) (aC (eV 4) aN)))) jy) (qb (sIf (bE (e2 ka (eV 3) (eK .non))) (qm 4 (yw ft zd8 (eV 0) (aC (eV 4) (aC (zk yk (aC (eV 3) aN)) aN)))) jy) (qi (eV 4)))))
def zaa:G:=z7 5 4 zhl
def zad:C :=
 (qb (sIf (bE (e2 zf9 (eV 0) (eK .non))) (qi (za8 (aC (eK .non) (aC (eK .non) aN)))) jy) (qi (za8 (aC (zk zaa (aC (eV 0) (aC (eV 1) (aC (eV 2) (aC (eV 3) aN))))) (aC (zk ku (aC (eV 0) (aC (eV 1) (aC (eV 2) (aC (eV 3) aN))))) aN)))))
def xn:G:=z7 4 4 zad
def zi4:C :=
 (qb (qm 4 (zk kj (aC (eV 1) (aC (eV 3) aN)))) (qb (za3 (zk xb (aC (eV 4) aN))) (qb (sIf (zhu (bE (zk xo (aC (eV 1) (aC (eV 3) aN))))) zc6 jy) (qb (qm 5 (za8 (aC (eV 4) (aC (zk xk (aC (eV 1) (aC (eV 3) aN))) aN)))) (qb (qm 6 (zk xn (aC (zxf "Wood" "adding" (eV 0)) (aC (eV 1) (aC (eV 2) (aC (eV 3) aN)))))) (qi (xw "Wood" "numbered" jv (eV 0) (aC (e2 qa (e2 qa (za8 (aC (eK (.bl false)) (aC (eV 1) (aC (eV 2) (aC (eV 3) aN))))) (eV 5)) (eV 6)) aN))))))))
def z6:G:=z7 7 4 zi4
def zf3:C :=
 (qb (sIf (bE (e2 zf9 (eV 1) (eK .non))) (qi (eK .non)) jy) (qb (qm 2 (za8 (aC (e2s qj (eV 1) (eK (.int 2))) (aC (e2s qj (eV 1) (eK (.int 3))) (aC (e2s qj (eV 1) (eK (.int 4))) aN))))) (qi (xw "Wood" "numbered" jv (eV 0) (aC (e2 qa (e2 qa (za8 (aC (z0r (e2s qj (eV 1) (eK (.int 1)))) aN)) (eV 2)) (za8 (aC (zk jz (aC (eV 1) aN)) (aC (zk jq (aC (eV 1) aN)) (aC (zk zdv (aC (eV 1) aN)) (aC (zk yk (aC (eV 1) aN)) aN)))))) aN)))))
def qx:G:=z7 3 2 zf3
def zp0:C :=
 (qb (sIf (zhu (bE (e2s qj (eV 1) (eK (.int 1))))) (qi (za8 (aC (e2s qj (eV 1) (eK (.int 2))) (aC (e2s qj (eV 1) (eK (.int 3))) (aC (e2s qj (eV 1) (eK (.int 4))) aN))))) jy) (qb (qm 2 (xw "Wood" "turned" qx (eV 0) (aC (e2s qj (eV 1) (eK (.int 4))) aN))) (qb (qm 3 (xw "Wood" "turned" qx (eV 0) (aC (e2s qj (eV 1) (eK (.int 2))) aN))) (qi (za8 (aC (eV 2) (aC (e2s qj (eV 1) (eK (.int 3))) (aC (eV 3) aN))))))))
def kr:G:=z7 4 2 zp0
def zfz:C :=
 (qb (qm 4 (zk kr (aC (eV 0) (aC (eV 1) aN)))) (qb (sIf (bE (e2 ztj (zk jq (aC (e2s qj (eV 4) (eK (.int 0))) aN)) (zk jq (aC (e2s qj (eV 4) (eK (.int 2))) aN)))) (qi (xw "Wood" "node" z6 (eV 0) (aC (e2s qj (eV 4) (eK (.int 0))) (aC (e2s qj (eV 4) (eK (.int 1))) (aC (xw "Wood" "node" z6 (eV 0) (aC (e2s qj (eV 4) (eK (.int 2))) (aC (eV 2) (aC (eV 3) aN)))) aN))))) jy) (qb (qm 5 (zk kr (aC (eV 0) (aC (e2s qj (eV 4) (eK (.int 2))) aN)))) (qb (qm 6 (xw "Wood" "node" z6 (eV 0) (aC (e2s qj (eV 4) (eK (.int 0))) (aC (e2s qj (eV 4) (eK (.int 1))) (aC (e2s qj (eV 5) (eK (.int 0))) aN))))) (qb (qm 7 (xw "Wood" "node" z6 (eV 0) (aC (e2s qj (eV 5) (eK (.int 2))) (aC (eV 2) (aC (eV 3) aN))))) (qi (xw "Wood" "node" z6 (eV 0) (aC (eV 6) (aC (e2s qj (eV 5) (eK (.int 1))) (aC (eV 7) aN))))))))))
def ym:G:=z7 8 4 zfz
def zeb:C :=
 (qb (qm 4 (zk kr (aC (eV 0) (aC (eV 3) aN)))) (qb (sIf (bE (e2 ztj (zk jq (aC (e2s qj (eV 4) (eK (.int 2))) aN)) (zk jq (aC (e2s qj (eV 4) (eK (.int 0))) aN)))) (qi (xw "Wood" "node" z6 (eV 0) (aC (xw "Wood" "node" z6 (eV 0) (aC (eV 1) (aC (eV 2) (aC (e2s qj (eV 4) (eK (.int 0))) aN)))) (aC (e2s qj (eV 4) (eK (.int 1))) (aC (e2s qj (eV 4) (eK (.int 2))) aN))))) jy) (qb (qm 5 (zk kr (aC (eV 0) (aC (e2s qj (eV 4) (eK (.int 0))) aN)))) (qb (qm 6 (xw "Wood" "node" z6 (eV 0) (aC (eV 1) (aC (eV 2) (aC (e2s qj (eV 5) (eK (.int 0))) aN))))) (qb (qm 7 (xw "Wood" "node" z6 (eV 0) (aC (e2s qj (eV 5) (eK (.int 2))) (aC (e2s qj (eV 4) (eK (.int 1))) (aC (e2s qj (eV 4) (eK (.int 2))) aN))))) (qi (xw "Wood" "node" z6 (eV 0) (aC (eV 6) (aC (e2s qj (eV 5) (eK (.int 1))) (aC (eV 7) aN))))))))))
def kt:G:=z7 8 4 zeb
def zl3:C :=
 (qb (sIf (bE (zk xo (aC (eV 1) (aC (eV 3) aN)))) (qi (xw "Wood" "node" z6 (eV 0) (aC (eV 1) (aC (eV 2) (aC (eV 3) aN))))) jy) (qb (sIf (bE (e2 zd6 (zk jq (aC (eV 1) aN)) (zk jq (aC (eV 3) aN)))) (qi (zk ym (aC (eV 0) (aC (eV 1) (aC (eV 2) (aC (eV 3) aN)))))) jy) (qi (zk kt (aC (eV 0) (aC (eV 1) (aC (eV 2) (aC (eV 3) aN))))))))
def zap:G:=z7 4 4 zl3
def zsj(self:G):C :=
 (qb (sIf (bE (e2 zf9 (eV 1) (eK .non))) (qi (xw "Wood" "node" z6 (eV 0) (aC (eK .non) (aC (eV 3) (aC (eK .non) aN))))) jy) (qb (qm 4 (zk kr (aC (eV 0) (aC (eV 1) aN)))) (qb (qm 5 (zk jz (aC (e2s qj (eV 4) (eK (.int 0))) aN))) (qb (sIf (bE (e2 znz (eV 2) (eV 5))) (qi (zk zap (aC (eV 0) (aC (zk (self) (aC (eV 0) (aC (e2s qj (eV 4) (eK (.int 0))) (aC (eV 2) (aC (eV 3) aN))))) (aC (e2s qj (eV 4) (eK (.int 1))) (aC (e2s qj (eV 4) (eK (.int 2))) aN)))))) jy) (qi (zk zap (aC (eV 0) (aC (e2s qj (eV 4) (eK (.int 0))) (aC (e2s qj (eV 4) (eK (.int 1))) (aC (zk (self) (aC (eV 0) (aC (e2s qj (eV 4) (eK (.int 2))) (aC (e2 y7 (e2 y7 (eV 2) (eV 5)) (eK (.int 1))) (aC (eV 3) aN))))) aN))))))))))
def zcu:Nat->G
 |0=>fun _ _=>none
 |k+1=>z7 6 4 (zsj (zcu k))
def z3t:C :=
 (qb (za3 (zk jl (aC (eV 2) (aC (e2 qa (zk jz (aC (eV 1) aN)) (eK (.int 1))) aN)))) (qb (za3 (zk xb (aC (e2 qa (zk jz (aC (eV 1) aN)) (eK (.int 1))) aN))) (qi (zk (zcu 40) (aC (eV 0) (aC (eV 1) (aC (eV 2) (aC (eV 3) aN))))))))
def zlp:G:=z7 4 4 z3t
def zs8:R :=
 (zld (za3 (zk jl (aC (eV 2) (aC (e2 qa (zk jz (aC (eV 1) aN)) (eK (.int 1))) aN)))) (zcf jg (aC (e2 qa (zk jz (aC (eV 1) aN)) (eK (.int 1))) aN)))
def zgp:GR:=zcl 4 4 zs8
def zwz:C :=
 (qb (qm 4 (zk jn (aC (eV 1) (aC (eV 2) (aC (eV 3) aN))))) (qb (sIf (bE (zk ql (aC (eV 1) (aC (eV 4) (aC (eV 2) (aC (eV 3) aN)))))) (qi (eV 1)) jy) (qi (zk zlp (aC (eV 0) (aC (eV 1) (aC (eV 4) (aC (eV 2) aN))))))))
def zdw:G:=z7 5 4 zwz
def zjr:R :=
 (zld (qm 4 (zk jn (aC (eV 1) (aC (eV 2) (aC (eV 3) aN))))) (zld (sIf (bE (zk ql (aC (eV 1) (aC (eV 4) (aC (eV 2) (aC (eV 3) aN)))))) (qi (eV 1)) jy) (zcf zgp (aC (eV 0) (aC (eV 1) (aC (eV 4) (aC (eV 2) aN)))))))
def zb1:GR:=zcl 5 4 zjr
def zwy(self:G):C :=
 (qb (sIf (bE (e2 zbc (eV 2) (eV 3))) (qi (eK .non)) jy) (qb (qm 4 (e2 yb (e2 qa (eV 2) (eV 3)) (eK (.int 2)))) (qb (qm 5 (zk (self) (aC (eV 0) (aC (eV 1) (aC (eV 2) (aC (eV 4) aN)))))) (qb (qm 6 (zk (self) (aC (eV 0) (aC (eV 1) (aC (e2 qa (eV 4) (eK (.int 1))) (aC (eV 3) aN)))))) (qi (xw "Wood" "node" z6 (eV 0) (aC (eV 5) (aC (e2s qj (eV 1) (eV 4)) (aC (eV 6) aN)))))))))
def zfr:Nat->G
 |0=>fun _ _=>none
 |k+1=>z7 7 4 (zwy (zfr k))
def zp1:C :=
 (qb (za3 (zk xb (aC (eA zdj (aC (eV 1) aN)) aN))) (qi (zk (zfr 40) (aC (eV 0) (aC (eV 1) (aC (eK (.int 0)) (aC (eA zdj (aC (eV 1) aN)) aN)))))))
def qw:G:=z7 2 2 zp1
def zel:R :=
 (zcf jg (aC (eA zdj (aC (eV 1) aN)) aN))
def k9:GR:=zcl 2 2 zel
def zsk:C :=
 (qb (qm 3 (zpk aN)) (qb (qm 4 (eK (.int 0))) (qb (zqx 5 (eV 0) (qb (zm7 5000 (zhv (bE (e2 zb8 (eV 4) (eA zdj (aC (eV 1) aN)))) (bE (xy ft zd8 zkr (eV 2) (aC (e2s qj (eV 1) (eV 4)) (aC (eV 5) aN))))) (qb (ko (eV 3) (e2s qj (eV 1) (eV 4))) (qm 4 (e2 qa (eV 4) (eK (.int 1)))))) (qb (ko (eV 3) (eV 5)) (sIf (zhv (bE (e2 zb8 (eV 4) (eA zdj (aC (eV 1) aN)))) (zhu (bE (xy ft zd8 zkr (eV 2) (aC (eV 5) (aC (e2s qj (eV 1) (eV 4)) aN)))))) (qm 4 (e2 qa (eV 4) (eK (.int 1)))) jy)))) (qi (e2s zgs (eV 3) (eSl (eV 1) (pE (eV 4)) pN))))))
def zbr:G:=frz (z7 6 3 zsk)
def zsm(self:G):C :=
 (qb (sIf (bE (e2 zf9 (eV 0) (eK .non))) zyd jy) (qb (qm 3 (zk zg3 (aC (eV 0) (aC (eV 1) aN)))) (qb (za3 (zk (self) (aC (e2s qj (eV 3) (eK (.int 0))) (aC (e2s qj (eV 3) (eK (.int 3))) (aC (eV 2) aN))))) (qb (ko (eV 2) (e2s qj (eV 3) (eK (.int 1)))) (za3 (zk (self) (aC (e2s qj (eV 3) (eK (.int 2))) (aC (e2s qj (eV 3) (eK (.int 3))) (aC (eV 2) aN)))))))))
def zcv:Nat->G
 |0=>fun _ _=>none
 |k+1=>z7 4 3 (zsm (zcv k))
def zd2:C :=
 (qb (qm 1 (zpk aN)) (qb (za3 (zk (zcv 40) (aC (eV 0) (aC (eK (.bl false)) (aC (eV 1) aN))))) (qi (eV 1))))
def z8:G:=frz (z7 2 1 zd2)
def zsn:C :=
 (qi (zk qw (aC (eV 0) (aC (zk zbr (aC (zk z8 (aC (eV 1) aN)) (aC (zk z8 (aC (eV 2) aN)) (aC (eV 3) aN)))) aN))))
def yn:G:=z7 4 4 zsn
def zgo:R :=
 (zcf k9 (aC (eV 0) (aC (zk zbr (aC (zk z8 (aC (eV 1) aN)) (aC (zk z8 (aC (eV 2) aN)) (aC (eV 3) aN)))) aN)))
def zah:GR:=zcl 4 4 zgo
def km:G:=zwd 0 1 "by_key" lt_0 [0]
def zwx(self:G):C :=
 (qb (qm 4 (zk kr (aC (eV 0) (aC (eV 1) aN)))) (qb (qm 5 (zk jz (aC (e2s qj (eV 4) (eK (.int 0))) aN))) (qb (sIf (bE (e2 zb8 (eV 2) (eV 5))) (qi (xw "Wood" "node" z6 (eV 0) (aC (zk (self) (aC (eV 0) (aC (e2s qj (eV 4) (eK (.int 0))) (aC (eV 2) (aC (eV 3) aN))))) (aC (e2s qj (eV 4) (eK (.int 1))) (aC (e2s qj (eV 4) (eK (.int 2))) aN))))) jy) (qb (sIf (bE (e2 zd6 (eV 2) (eV 5))) (qi (xw "Wood" "node" z6 (eV 0) (aC (e2s qj (eV 4) (eK (.int 0))) (aC (e2s qj (eV 4) (eK (.int 1))) (aC (zk (self) (aC (eV 0) (aC (e2s qj (eV 4) (eK (.int 2))) (aC (e2 y7 (e2 y7 (eV 2) (eV 5)) (eK (.int 1))) (aC (eV 3) aN))))) aN))))) jy) (qi (xw "Wood" "node" z6 (eV 0) (aC (e2s qj (eV 4) (eK (.int 0))) (aC (eV 3) (aC (e2s qj (eV 4) (eK (.int 2))) aN)))))))))
def zfq:Nat->G
 |0=>fun _ _=>none
 |k+1=>z7 6 4 (zwx (zfq k))
def zpz:C :=
 (qb (za3 (zk jl (aC (eV 2) (aC (zk jz (aC (eV 1) aN)) aN)))) (qi (zk (zfq 40) (aC (eV 0) (aC (eV 1) (aC (eV 2) (aC (eV 3) aN)))))))
def zbq:G:=z7 4 4 zpz
def zhk:C :=
 (qb (qm 5 (za8 (aC (eV 2) (aC (eV 3) aN)))) (qb (qm 6 (zk km (aC (eV 4) aN))) (qb (qm 7 (zk jn (aC (eV 1) (aC (eV 5) (aC (eV 6) aN))))) (qb (sIf (bE (zk ql (aC (eV 1) (aC (eV 7) (aC (eV 5) (aC (eV 6) aN)))))) (qi (zk zbq (aC (eV 0) (aC (eV 1) (aC (eV 7) (aC (eV 5) aN)))))) jy) (qi (zk zlp (aC (eV 0) (aC (eV 1) (aC (eV 7) (aC (eV 5) aN))))))))))
def jh:G:=z7 8 5 zhk
def zbi:R :=
 (zld (qm 5 (za8 (aC (eV 2) (aC (eV 3) aN)))) (zld (qm 6 (zk km (aC (eV 4) aN))) (zld (qm 7 (zk jn (aC (eV 1) (aC (eV 5) (aC (eV 6) aN))))) (zld (sIf (bE (zk ql (aC (eV 1) (aC (eV 7) (aC (eV 5) (aC (eV 6) aN)))))) (qi (zk zbq (aC (eV 0) (aC (eV 1) (aC (eV 7) (aC (eV 5) aN)))))) jy) (zcf zgp (aC (eV 0) (aC (eV 1) (aC (eV 7) (aC (eV 5) aN)))))))))
def xa:GR:=zcl 8 5 zbi
def zi0:C :=
 (qb (qm 4 (eK .non)) (qb (zu4 (sIf (bE (e2 zbc (eV 0) (eK (.str (Str.ofString "either"))))) (qm 4 (zk jz (aC (zk yn (aC (eV 1) (aC (eV 2) (aC (eV 3) (aC (eK (.fn "_law_less")) aN))))) aN))) (sIf (bE (e2 zbc (eV 0) (eK (.str (Str.ofString "added"))))) (qm 4 (zk jz (aC (zk zdw (aC (eV 1) (aC (eV 2) (aC (eV 3) (aC (eK (.fn "_law_less")) aN))))) aN))) (qm 4 (zk jz (aC (zk jh (aC (eV 1) (aC (eV 2) (aC (eV 3) (aC (eK (.int 5)) (aC (eK (.fn "_law_less")) aN)))))) aN))))) (rIf (bE (e2 zbc (eV 0) (eK (.str (Str.ofString "either"))))) (zcf zah (aC (eV 1) (aC (eV 2) (aC (eV 3) (aC (eK (.fn "_law_less")) aN))))) (rIf (bE (e2 zbc (eV 0) (eK (.str (Str.ofString "added"))))) (zcf zb1 (aC (eV 1) (aC (eV 2) (aC (eV 3) (aC (eK (.fn "_law_less")) aN))))) (zcf xa (aC (eV 1) (aC (eV 2) (aC (eV 3) (aC (eK (.int 5)) (aC (eK (.fn "_law_less")) aN)))))))) up.cat 5 (qm 4 (zk za6 (aC (eV 5) aN)))) (qi (eV 4))))
def z9:G:=frz (z7 6 4 zi0)
def z3u:C :=
 (qi (zk ql (aC (eV 0) (aC (zk jn (aC (eV 0) (aC (eV 1) (aC (eV 2) aN)))) (aC (eV 1) (aC (eV 2) aN))))))
def zru:G:=z7 3 3 z3u
def zso:C :=
 (qi (zk qw (aC (eV 0) (aC (jm [3,2] (zht (zk z8 (aC (eV 1) aN))) (bE (zk zru (aC (eV 2) (aC (eV 0) (aC (eV 1) aN))))) (eV 0)) aN))))
def zbs:G:=z7 4 4 zso
def z09:C :=
 (qi (zk qw (aC (eV 0) (aC (jm [3,2] (zht (zk z8 (aC (eV 1) aN))) (zhu (bE (zk zru (aC (eV 2) (aC (eV 0) (aC (eV 1) aN)))))) (eV 0)) aN))))
def zg4:G:=z7 4 4 z09
def zck:C :=
 (qb (qm 3 (zk jn (aC (eV 0) (aC (eV 1) (aC (eV 2) aN))))) (qb (sIf (zhu (bE (zk ql (aC (eV 0) (aC (eV 3) (aC (eV 1) (aC (eV 2) aN))))))) zc6 jy) (qi (eV 3))))
def xu:G:=z7 4 3 zck
def zsi:C :=
 (qi (za8 (aC (eV 0) (aC (eK .non) aN))))
def zct:G:=z7 1 1 zsi
def zl0:C :=
 (qi (e2s qj (zk z1y (aC (eV 0) (aC (zk xu (aC (eV 0) (aC (zk zct (aC (eV 1) aN)) (aC (zk km (aC (eV 2) aN)) aN)))) aN))) (eK (.int 1))))
def yd:G:=z7 3 3 zl0
end
end Pg
namespace Pg
open PySem L2 F Mt
class Kd (k:Nat):Prop where
 eq:k=0
instance:Kd 0:=⟨rfl⟩
variable {k:Nat} [Kd k] {S S0 S1:Sto}{ev:Ev}
def zcd(_:Nat):D:=.non
theorem zp9(hk:k≠0):(∃z,zcd k=.fn z)\/∃z,zcd k=.lam z:=absurd (Kd.eq (k:=k)) hk
theorem zw7{f:E}{as:As}{x y:D}{n m:Nat}(hk:k≠0)(h:f ev S=some (zcd k,S))(ha:as ev S=some ([x,y],S))(hx:Th k n x)(hy:Th k m y)(hn:n+m<=4000):yw ft zd8 f as ev S=some (ad k x y,S):=absurd (Kd.eq (k:=k)) hk
end Pg
namespace Pg
open PySem L2 F Mt
variable {k:Nat} [Kd k] {d l r t:D}{ts lt rt:List D}{h lh rh:Nat}{S S1:Sto}{ev e:Ev}
theorem zs3(a b c d e f g h i:D)(S:Sto):jz [.tup [a,b,c,d,e,f,g,h,i]] S=some (f,S):=rfl
theorem zkc(a b c d e f g h i:D)(S:Sto):jq [.tup [a,b,c,d,e,f,g,h,i]] S=some (g,S):=rfl
theorem zmp(a b c d e f g h i:D)(S:Sto):yk [.tup [a,b,c,d,e,f,g,h,i]] S=some (h,S):=rfl
theorem zt9(a b c d e f g h i:D)(S:Sto):zdv [.tup [a,b,c,d,e,f,g,h,i]] S=some (i,S):=rfl
theorem jo(m:Mk k d ts h)(S:Sto):jz [d] S=some (.int ts.length,S):=by
 cases m with
 |non=>rfl
 |node _ _ _ _ _=>rw[mkD,zs3,x9];simp;omega
theorem qp(m:Mk k d ts h)(S:Sto):jq [d] S=some (.int h,S):=by
 cases m with
 |non=>rfl
 |node _ _ _ _ _=>rw[mkD,zkc]
theorem zjh(m:Mk k d ts h)(S:Sto):yk [d] S=some (zb5 k ts,S):=by
 cases m with
 |non=>rfl
 |node _ _ _ _ _=>rw[mkD,zmp]
theorem zp7(m:Mk k d ts h)(S:Sto):zdv [d] S=some (zb5 k ts.reverse,S):=by
 cases m with
 |non=>rfl
 |node _ _ _ _ _=>rw[mkD,zt9]
theorem ze8(ml:Mk k l lt lh)(mr:Mk k r rt rh)(S:Sto):kj [l,r] S=some (.int (lt.length+1+rt.length:Nat),S):=by simp[kj,z7,zcb,qi,e2,zk,aC,aN,eV,eK,qa,jo ml,jo mr]
theorem zdt(ml:Mk k l lt lh)(mr:Mk k r rt rh)(S:Sto):xk [l,r] S=some (.int (max lh rh+1:Nat),S):=by simp[xk,z7,za0,qi,e2,zk,aC,aN,eV,eK,qa,eA,zzj,qp ml,qp mr];split<;>omega
theorem zbo(ml:Mk k l lt lh)(mr:Mk k r rt rh)(S:Sto):xo [l,r] S=some (.bl (decide (lh<=rh+1/\rh<=lh+1)),S):=by simp[xo,z7,zcc,qi,e2,zk,aC,aN,eV,eK,y7,znz,F.opI,opIB,eA,z1g,qp ml,qp mr];rw[z9w];simp;split<;>omega
theorem zud{a b:E}{x y:D}{n m:Nat}(hk:k≠0)(h0:ev[0]? = some (some (zcd k)))(ha:a ev S=some (x,S))(hb:b ev S=some (y,S))(hx:Th k n x)(hy:Th k m y)(hn:n+m<=4000):yw ft zd8 (eV 0) (aC a (aC b aN)) ev S=some (ad k x y,S):=by exact zw7 hk (e_v h0) (a_c ha (a_c hb a_n)) hx hy hn
theorem zkw{gs:G}{w:E->E}{p q:Nat}{x y:D}{xt yt:List D}(hk:k≠0)(ht:Thing k t)(hn:xt.length+1+yt.length<=2000)(hx:∀z∈xt,Thing k z)(hy:∀z∈yt,Thing k z)(ex:x=.non/\xt=[]\/xt≠[]/\∃xs,x=.tup xs)(ey:y=.non/\yt=[]\/yt≠[]/\∃ys,y=.tup ys)
   (ev0:Ev) (S:Sto) (e0:ev0[0]? = some (some (zcd k))) (et:ev0[2]? = some (some t)) (ep:ev0[p]? = some (some x)) (eq:ev0[q]? = some (some y)) (hl:ev0.length=5) (hp:p<4) (hq:q<4) (hx':∀ev:Ev,ev[p]? = some (some x)->w (eV p) ev S=some (zb5 k xt,S)) (hy':∀ev:Ev,ev[q]? = some (some y)->w (eV q) ev S=some (zb5 k yt,S)) :
   qb (qm 4 (eV 2)) (qb (sIf (bE (e2 ka (eV p) (eK .non))) (qm 4 (yw ft zd8 (eV 0) (aC (w (eV p)) (aC (eV 4) aN)))) jy) (qb (sIf (bE (e2 ka (eV q) (eK .non))) (qm 4 (yw ft zd8 (eV 0) (aC (eV 4) (aC (w (eV q)) aN)))) jy) (qi (eV 4)))) ev0 S=some (.rt (zb5 k (xt++t::yt)),S):=by
 have tt:=ht.th hk;have g4:∀(d:D) (i:Nat),i<4->(ev0.set 4 (some d))[i]? = ev0[i]?:=fun d i hi=>z68 (by omega);have s4:∀(ev:Ev) (d:D),ev.length=5->(ev.set 4 (some d))[4]? = some (some d):=fun ev d h=>z6r (by omega);have ss:∀(d e:D),(ev0.set 4 (some d)).set 4 (some e)=ev0.set 4 (some e):=fun d e=>by simp
 have step2:∀(acc:D) (n:Nat),Th k n acc->n+yt.length<=2000->∀{res:D},(yt=[]->res=acc)->(yt≠[]->res=ad k acc (zb5 k yt)) ->
     qb (sIf (bE (e2 ka (eV q) (eK .non))) (qm 4 (yw ft zd8 (eV 0) (aC (eV 4) (aC (w (eV q)) aN)))) jy) (qi (eV 4)) (ev0.set 4 (some acc)) S=some (.rt res,S):=by
   intro acc n ha hb res r1 r2;rcases ey with⟨e1,e2'⟩ | ⟨e1,ys,e2'⟩
   · rw[r1 e2'];exact zm (zu (jf (e_2 (e_v (by rw[g4 _ _ hq,eq])) e_k (by rw[e1];rfl)))) (zt (e_v (s4 _ _ hl)))
   · rw[r2 e1];refine zm (qh (jf (e_2 (e_v (by rw[g4 _ _ hq,eq])) e_k (by rw[e2'];rfl))) (zn (zud hk (by rw[g4 _ _ (by decide),e0]) (e_v (s4 _ _ hl)) (hy' _ (by rw[g4 _ _ hq,eq])) ha (zmr hk e1 hy) (by omega)))) (zt (e_v ?_));rw[ss];exact s4 _ _ hl
 refine zm (zn (e_v et)) ?_;rcases ex with⟨e1,e2'⟩ | ⟨e1,xs,e2'⟩
 · subst e2';refine zm (zu (jf (e_2 (e_v (by rw[g4 _ _ hp,ep])) e_k (by rw[e1];rfl)))) (step2 t 1 tt (by simp at hn;omega) (fun z=>by rw[z,List.nil_append,zbe hk]) fun z=>?_);rw[List.nil_append,show t::yt=[t]++yt from rfl,yi hk (by simp) z,zbe hk]
 · have t1:=zmr hk e1 hx;have e3:zb5 k (xt++[t])=ad k (zb5 k xt) t:=by rw[yi hk e1 (by simp),zbe hk]
   refine zm (qh (jf (e_2 (e_v (by rw[g4 _ _ hp,ep])) e_k (by rw[e2'];rfl))) (zn (zud hk (by rw[g4 _ _ (by decide),e0]) (hx' _ (by rw[g4 _ _ hp,ep])) (e_v (s4 _ _ hl)) t1 tt (by omega)))) ?_;rw[ss];exact step2 _ _ (t1.ad tt) (by omega) (fun z=>by rw[z,e3]) fun z=>by rw[show xt++t::yt=(xt++[t])++yt by simp,yi hk (by simp) z,e3]
theorem zj1{xs:List D}(m:Mk k d ts h):d=.non/\ts=[]\/ts≠[]/\∃xs,d=.tup xs:=by
 cases m with
 |non=>exact .inl ⟨rfl,rfl⟩
 |node _ _ _ _ _=>exact .inr ⟨by intro z;have:=z7k List.length z;rw[x9]at this;simp at this,_,rfl⟩
theorem zn0(hk:k≠0)(ml:Mk k l lt lh)(mr:Mk k r rt rh)(ht:Thing k t)(hn:lt.length+1+rt.length<=2000)(S:Sto) :
   zaa [zcd k,l,t,r] S=some (zb5 k (lt++t::rt),S) :=
 j8 rfl (zkw (w:=fun x=>zk yk (aC x aN)) (p:=1) (q:=3) (gs:=yk) hk ht hn ml.things mr.things (zj1 (xs:=[]) ml) (zj1 (xs:=[]) mr) _ S rfl rfl rfl rfl rfl (by decide) (by decide) (fun ev h=>zi (a_c (e_v h) a_n) (zjh ml S)) (fun ev h=>zi (a_c (e_v h) a_n) (zjh mr S)))
theorem zi6(hk:k≠0)(ml:Mk k l lt lh)(mr:Mk k r rt rh)(ht:Thing k t)(hn:lt.length+1+rt.length<=2000)(S:Sto) :
   ku [zcd k,l,t,r] S=some (zb5 k (lt++t::rt).reverse,S):=by
 have rev:(lt++t::rt).reverse=rt.reverse++t::lt.reverse:=by simp
 have no:∀{d:D}{ts:List D},(d=.non/\ts=[]\/ts≠[]/\∃xs,d=.tup xs)->(d=.non/\ts.reverse=[]\/ts.reverse≠[]/\∃xs,d=.tup xs):=fun h=>by simpa using h
 rw[rev];exact j8 rfl (zkw (w:=fun x=>zk zdv (aC x aN)) (p:=3) (q:=1) (gs:=yk) hk ht (by simp;omega) (fun z hz=>mr.things z (qaa.mp hz)) (fun z hz=>ml.things z (qaa.mp hz)) (no (zj1 (xs:=[]) mr)) (no (zj1 (xs:=[]) ml)) _ S rfl rfl rfl rfl rfl (by decide) (by decide) (fun ev h=>zi (a_c (e_v h) a_n) (zp7 mr S)) (fun ev h=>zi (a_c (e_v h) a_n) (zp7 ml S)))
theorem ze4(ml:Mk k l lt lh)(mr:Mk k r rt rh)(ht:Thing k t)(hn:lt.length+1+rt.length<=2000)(S:Sto) :
   xn [zcd k,l,t,r] S=some (.tup [zb5 k (lt++t::rt),zb5 k (lt++t::rt).reverse],S):=by
 by_cases hk:k=0
 · subst hk;simp[xn,z7,zad,zcd,qb,sIf,qi,bE,e2,eV,eK,zf9,zom,za8,eA,aC,aN,zsz,zmt]
 · have o:=zn0 hk ml mr ht hn;have b:=zi6 hk ml mr ht hn;rcases zp9 (k:=k) hk with⟨zz,hav⟩ | ⟨zz,hav⟩<;>rw[hav]at o b ⊢<;>simp only[xn,z7,zad] <;>
   simp[qb,sIf,qi,jy,bE,e2,eV,eK,zf9,zom,za8,eA,aC,aN,zsz,zk,o,b]
def wd(ad:D)(n:Int):MO:=.ins "Wood" [("adding",ad),("nodes_made",.int n)]
theorem na:((Str.ofString "nodes_made")==(Str.ofString "adding"))=false:=by decide +kernel
theorem na':¬ (Str.ofString "adding"=Str.ofString "nodes_made"):=by decide +kernel
theorem na2:((Str.ofString "numbered")==(Str.ofString "adding"))=false:=by decide +kernel
theorem na3:((Str.ofString "numbered")==(Str.ofString "nodes_made"))=false:=by decide +kernel
theorem na4:((Str.ofString "node")==(Str.ofString "adding"))=false:=by decide +kernel
theorem na5:((Str.ofString "node")==(Str.ofString "nodes_made"))=false:=by decide +kernel
theorem na8:((Str.ofString "turned")==(Str.ofString "adding"))=false:=by decide +kernel
theorem na9:((Str.ofString "turned")==(Str.ofString "nodes_made"))=false:=by decide +kernel
theorem zdb{i:Nat}{av:D}{n:Int}{xs:List D}(h:S[i]? = some (wd av n))(hl:1+xs.length<=sizeLine) :
   jv [.obj i,.tup xs] S=some (.tup (.int n::xs),S.set i (wd av (n+1))):=by
 have h1:(1:Nat)<=sizeLine:=by decide
 unfold wd at h ⊢;simp[jv,z7,zae,qb,qm,zxf,eV,zds,h,zlc,e2,qa,eK,qi,za8,aC,aN,eA,ztd,List.lookup,na,na',hl,h1]
def wfs(av:D)(n:Int):List (Str×D):=[("adding",av),("nodes_made",.int n)]
theorem qk{i:Nat}{av:D}{n:Int}(h:S[i]? = some (wd av n)):zds (Str.ofString "Wood") S (.obj i)=some (i,wfs av n):=by simp[zds,h,wd,wfs]
theorem j0(av:D)(n:Int):(wfs av n).lookup (Str.ofString "node")=none:=by simp[wfs,List.lookup,na4,na5]
theorem zge(av:D)(n:Int):(wfs av n).lookup (Str.ofString "turned")=none:=by simp[wfs,List.lookup,na8,na9]
theorem zmh(av:D)(n:Int):(wfs av n).lookup (Str.ofString "adding")=some av:=by simp[wfs,List.lookup]
theorem zc3(av:D)(n:Int):(wfs av n).lookup (Str.ofString "numbered")=none:=by simp[wfs,List.lookup,na2,na3]
theorem x6{f:E}(h:f ev S=some (d,S1)):za3 f ev S=some (.nx ev,S1):=by simp[za3,h]
theorem z3w{N n:Nat}{c:C}{ds:List D}{S S':Sto}{e:Ev}(hl:ds.length=n)(h:c (ds.map some++List.replicate (N-ds.length) none) S=some (.nx e,S')):z7 N n c ds S=some (.non,S'):=by unfold z7;rw[z55 hl,h]
theorem zzw{x y:Int}(h:x<=y):zd6 (.int x) (.int y)=some (.bl false):=by show some (D.bl (decide (y<x)))=_;rw[z54 (by omega)]
theorem zh9{m:Nat}(h:m<=2000)(S:Sto):xb [.int m] S=some (.non,S):=z3w rfl (zu (jf (e_2 (e_v rfl) e_k (zzw (by omega)))))
theorem zvx{i:Nat}{n:Int}(h:S[i]? = some (wd (zcd k) n))(ml:Mk k l lt lh)(mr:Mk k r rt rh)(ht:Thing k t)(h1:lh<=rh+1)(h2:rh<=lh+1)(hn:lt.length+1+rt.length<=2000) :
   z6 [.obj i,l,t,r] S=some (mkD n false l t r (lt.length+1+rt.length:Nat) (max lh rh+1:Nat) (zb5 k (lt++t::rt)) (zb5 k (lt++t::rt).reverse),S.set i (wd (zcd k) (n+1))):=by
 have hz:sizeLine=16777216:=z7b;have q:=ze8 ml mr S;have b:=zbo ml mr S;have hh:=zdt ml mr S;have sa:=ze4 ml mr ht hn S;rw[z6b (show lh<=rh+1/\rh<=lh+1 from⟨h1,h2⟩)]at b;exact j8 rfl (zm (zn (zi (a_c (e_v rfl) (a_c (e_v rfl) a_n)) q)) (zm (x6 (zi (a_c (e_v rfl) a_n) (zh9 hn S))) (zm (zu (z14 (jf (zi (a_c (e_v rfl) (a_c (e_v rfl) a_n)) b)))) (zm (zn (zbx (a_c (e_v rfl) (a_c (zi (a_c (e_v rfl) (a_c (e_v rfl) a_n)) hh) a_n)) (by simp))) (zm (zn (zi (a_c (z3o (e_v rfl) (qk h) (zmh _ _)) (a_c (e_v rfl) (a_c (e_v rfl) (a_c (e_v rfl) a_n)))) sa)) (zt (xc (e_v rfl) (qk h) (zc3 _ _) (a_c (e_2 (e_2 (zbx (a_c e_k (a_c (e_v rfl) (a_c (e_v rfl) (a_c (e_v rfl) a_n)))) (by simp)) (e_v rfl) (zf6 (by simp))) (e_v rfl) (zf6 (by simp))) a_n) (zdb h (by simp;omega)))))))))
theorem zvy{n:Int}(ml:Mk k l lt lh)(mr:Mk k r rt rh)(ht:Thing k t)(h1:lh<=rh+1)(h2:rh<=lh+1) :
   Mk k (mkD n false l t r (lt.length+1+rt.length:Nat) (max lh rh+1:Nat) (zb5 k (lt++t::rt)) (zb5 k (lt++t::rt).reverse)) (lt++t::rt) (max lh rh+1):=by
 have:=Mk.node (num:=n) (a:=false) ml mr ht h1 h2;simpa [ord] using this
theorem zk0{i:Nat}:qx [.obj i,.non] S=some (.non,S):=rfl
theorem zqj{i:Nat}{n num:Int}{av:D}{a:Bool}{sz ht:Int}{to ba:D}(h:S[i]? = some (wd av n)) :
   qx [.obj i,mkD num a l t r sz ht to ba] S=some (mkD n (!a) l t r sz ht ba to,S.set i (wd av (n+1))):=by
 have hz:sizeLine=16777216:=z7b;unfold mkD;exact j8 rfl (zm (zu (jf (e_2 (e_v rfl) e_k rfl))) (zm (zn (zbx (a_c (qy (e_v rfl) e_k rfl) (a_c (qy (e_v rfl) e_k rfl) (a_c (qy (e_v rfl) e_k rfl) a_n))) (by simp))) (zt (xc (e_v rfl) (qk h) (zc3 _ _) (a_c (e_2 (e_2 (zbx (a_c (z0o (qy (e_v rfl) e_k rfl)) a_n) (by simp)) (e_v rfl) (zf6 (by simp))) (zbx (a_c (zi (a_c (e_v rfl) a_n) (zs3 _ _ _ _ _ _ _ _ _ _)) (a_c (zi (a_c (e_v rfl) a_n) (zkc _ _ _ _ _ _ _ _ _ _)) (a_c (zi (a_c (e_v rfl) a_n) (zt9 _ _ _ _ _ _ _ _ _ _)) (a_c (zi (a_c (e_v rfl) a_n) (zmp _ _ _ _ _ _ _ _ _ _)) a_n)))) (by simp)) (zf6 (by simp))) a_n) (zdb h (by simp;omega))))))
theorem zmk{num n:Int}{a:Bool}{sz ht:Int}{to ba:D}(m:Mk k (mkD num a l t r sz ht to ba) ts h):Mk k (mkD n (!a) l t r sz ht ba to) ts.reverse h:=by
 generalize hd:mkD num a l t r sz ht to ba=d at m;cases m with
 |non=>cases hd
 | @node num' a' l' t' r' lt rt lh rh ml mr ht' h1 h2=>
   unfold mkD at hd;injection hd with hd;simp only[z8o,D.int.injEq,D.bl.injEq,and_true]at hd;obtain⟨rfl,rfl,rfl,rfl,rfl,rfl,rfl,rfl,rfl⟩:=hd;have:=Mk.node (num:=n) (a:=!a) ml mr ht' h1 h2;have e:ord (!a) (lt++t::rt)=(ord a (lt++t::rt)).reverse:=by cases a<;>simp[ord]
   rw[e,qac]at this;exact this
theorem zmg(S:Sto)(av:D):qu [.obj S.length,av] (S++[.ins (Str.ofString "Wood") []])=some (.non,S++[wd av 0]):=by
 have q1:(S++[MO.ins (Str.ofString "Wood") []])[S.length]? = some (MO.ins (Str.ofString "Wood") []):=by simp
 have q2:∀a b:MO,(S++[a]).set S.length b=S++[b]:=by intro a b;simp
 have q3:∀a:MO,(S++[a])[S.length]? = some a:=by intro a;simp
 simp[qu,z7,kf,qb,zlc,eV,eK,zds,ztd,na',wd,q1,q2,q3]
theorem zui:zpl (Str.ofString "Wood") (zxh 1 qu) aN ev S=some (.obj S.length,S++[wd .non 0]):=by have:=zmg S .non;simp[zpl,aN,zxh,this]
inductive Tnd (n:Int):D->D->Int->Prop where
 |non:Tnd n .non .non n
 |node {num:Int}{a:Bool}{l t r:D}{sz ht:Int}{to ba:D}:Tnd n (mkD num a l t r sz ht to ba) (mkD n (!a) l t r sz ht ba to) (n+1)
structure At (S S':Sto) (i:Nat) (av:D) (n n':Int):Prop where
 at_:S'[i]? = some (wd av n')
 le:n<=n'
 ne:∀j,j≠i->S'[j]? = S[j]?
 len:S'.length=S.length
theorem At.refl{i:Nat}{av:D}{n:Int}(h:S[i]? = some (wd av n)):At S S i av n n:=⟨h,Int.le_refl _,fun _ _=>rfl,rfl⟩
theorem At.set{i:Nat}{av:D}{n n':Int}(h:S[i]? = some (wd av n))(hn:n<=n'):At S (S.set i (wd av n')) i av n n':=⟨zm3 h,hn,fun j hj=>zya (z7s hj) _,by simp⟩
theorem At.trans {S2:Sto}{i:Nat}{av:D}{n n' n'':Int} (a:At S S1 i av n n') (b:At S1 S2 i av n' n''):At S S2 i av n n'':=⟨b.at_,Int.le_trans a.le b.le,fun j hj=>(b.ne j hj).trans (a.ne j hj),b.len.trans a.len⟩
theorem zeh{i:Nat}{av:D}{n:Int}(m:Mk k d ts h)(hw:S[i]? = some (wd av n)):∃d' n' S',qx [.obj i,d] S=some (d',S')/\Mk k d' ts.reverse h/\Tnd n d d' n'/\At S S' i av n n':=by
 have m0:=m;cases m with
 |non=>exact⟨.non,n,S,zk0,.non,.non,At.refl hw⟩
 |node ml mr ht h1 h2=>exact⟨_,_,_,zqj hw,zmk m0,.node,At.set hw (by omega)⟩
theorem zrf{i:Nat}{n num:Int}{av:D}{a:Bool}{sz ht:Int}{to ba:D}(m:Mk k (mkD num a l t r sz ht to ba) ts h)(hw:S[i]? = some (wd av n)) :
   ∃x y n' S' xt yt xh yh,kr [.obj i,mkD num a l t r sz ht to ba] S=some (.tup [x,t,y],S')/\At S S' i av n n'/\Mk k x xt xh/\Mk k y yt yh/\ts=xt++t::yt/\h=max xh yh+1/\xh<=yh+1/\yh<=xh+1/\Thing k t /\
     ((a=false/\x=l/\y=r/\n'=n/\S'=S)\/(a=true/\∃n1,Tnd n r x n1/\Tnd n1 l y n')):=by
 have hs:(3:Nat)<=16777216:=by decide
 generalize hd:mkD num a l t r sz ht to ba=d at m;cases m with
 |non=>cases hd
 | @node num' a' l' t' r' lt rt lh rh ml mr ht' h1 h2=>
   unfold mkD at hd;injection hd with hd;simp only[z8o,D.int.injEq,D.bl.injEq,and_true]at hd;obtain⟨rfl,rfl,rfl,rfl,rfl,rfl,rfl,rfl,rfl⟩:=hd;generalize ((lt.length+1+rt.length:Nat):Int)=sz;generalize ((max lh rh+1:Nat):Int)=hh;generalize zb5 k (ord a (lt++t::rt))=to;generalize zb5 k (ord a (lt++t::rt)).reverse=ba;cases a
   · refine⟨l,r,n,S,lt,rt,lh,rh,?_,At.refl hw,ml,mr,rfl,rfl,h1,h2,ht',.inl ⟨rfl,rfl,rfl,rfl,rfl⟩⟩;rfl
   · obtain⟨x,n1,S1,c1,mx,t1,w1⟩:=zeh mr hw;obtain⟨y,n2,S2,c2,my,t2,w2⟩:=zeh ml w1.at_;refine⟨x,y,n2,S2,rt.reverse,lt.reverse,rh,lh,?_,w1.trans w2,mx,my,by simp[ord],by rw[Nat.max_comm],h2,h1,ht',.inr ⟨rfl,n1,t1,t2⟩⟩;have f0:zhu (bE (e2s qj (eV 1) (eK (.int 1)))) [some (.obj i),some (.tup [.int num,.bl true,l,t,r,.int sz,.int hh,to,ba]),none,none] S=some (false,S):=rfl;have f1:qm 2 (xw "Wood" "turned" qx (eV 0) (aC (e2s qj (eV 1) (eK (.int 4))) aN)) [some (.obj i),some (.tup [.int num,.bl true,l,t,r,.int sz,.int hh,to,ba]),none,none] S=some (.nx [some (.obj i),some (.tup [.int num,.bl true,l,t,r,.int sz,.int hh,to,ba]),some x,none],S1) :=
       zn (xc (e_v rfl) (qk hw) (zge _ _) (a_c (qy (e_v rfl) e_k rfl) a_n) c1)
     have f2:qm 3 (xw "Wood" "turned" qx (eV 0) (aC (e2s qj (eV 1) (eK (.int 2))) aN)) [some (.obj i),some (.tup [.int num,.bl true,l,t,r,.int sz,.int hh,to,ba]),some x,none] S1=some (.nx [some (.obj i),some (.tup [.int num,.bl true,l,t,r,.int sz,.int hh,to,ba]),some x,some y],S2) :=
       zn (xc (e_v rfl) (qk w1.at_) (zge _ _) (a_c (qy (e_v rfl) e_k rfl) a_n) c2)
     have f3:qi (za8 (aC (eV 2) (aC (e2s qj (eV 1) (eK (.int 3))) (aC (eV 3) aN)))) [some (.obj i),some (.tup [.int num,.bl true,l,t,r,.int sz,.int hh,to,ba]),some x,some y] S2=some (.rt (.tup [x,t,y]),S2):=by unfold qi;rw[zbx (a_c (e_v rfl) (a_c (qy (e_v rfl) e_k rfl) (a_c (e_v rfl) a_n))) (by simp)];rfl
     simp only[kr,z7,zp0,mkD];simp only[List.length_cons,List.length_nil,Nat.reduceAdd,z7l,z5x,qbf,Nat.reduceSub,List.replicate,List.cons_append,List.nil_append];simp only[qb,sIf,f0,Option.bind_some,z50,z61,jy,f1,f2,f3]
end Pg
namespace Pg
open PySem L2 F Mt
variable {k:Nat} [Kd k] {d l r t x y:D}{ts lt rt:List D}{h lh rh i:Nat}{n:Int}{S S0 S1:Sto}{ev e:Ev}{P Q:D->Prop}{a b new:List D}
def num:D->Int
 | .tup (.int n::_)=>n
 |_=>0
inductive All (P:D->Prop):D->Prop where
 |non:All P .non
 |node {m:Int}{a:Bool}{l t r:D}{sz ht:Int}{to ba:D}:P (mkD m a l t r sz ht to ba)->All P l->All P r->All P (mkD m a l t r sz ht to ba)
theorem All.inv{m:Int}{a:Bool}{sz ht:Int}{to ba:D}(h:All P (mkD m a l t r sz ht to ba)):All P l/\All P r:=by
 generalize e:mkD m a l t r sz ht to ba=d at h;cases h with
 |non=>cases e
 | node _ b c=>
   unfold mkD at e;injection e with e;simp only[z8o,and_true]at e;obtain⟨_,_,rfl,_,rfl,_⟩:=e;exact⟨b,c⟩
theorem All.mono(h:All P d)(f:∀v,P v->Q v):All Q d:=by
 induction h with
 |non=>exact .non
 |node a _ _ b c=>exact .node (f _ a) b c
def Ac(P:D->Prop)(n:Int)(new:List D)(v:D):Prop:=P v\/∃j:Nat,new[j]? = some v/\num v=n+j
theorem Ac.app{v:D}(h:Ac P n a v):Ac P n (a++b) v:=h.imp id fun⟨j,h1,h2⟩=>⟨j,by rw[z6n (z5s.mp h1).1,h1],h2⟩
theorem Ac.two{v:D}(h:Ac (Ac P n a) (n+a.length) b v):Ac P n (a++b) v:=by
 rcases h with h | ⟨j,h1,h2⟩
 · exact h.app
 · exact .inr ⟨a.length+j,by rw[z51 (z6f _ _),z7n,h1],by omega⟩
theorem All.old(h:All P d):All (Ac P n a) d:=h.mono fun _=>.inl
theorem All.app(h:All (Ac P n a) d):All (Ac P n (a++b)) d:=h.mono fun _=>Ac.app
theorem All.two(h:All (Ac (Ac P n a) (n+a.length) b) d):All (Ac P n (a++b)) d:=h.mono fun _=>Ac.two
abbrev Wt(k i:Nat)(S:Sto)(n:Int)(new:List D)(S':Sto):Prop:=At S S' i (zcd k) n (n+new.length)
theorem Wt.nil(hw:S[i]? = some (wd (zcd k) n)):Wt k i S n [] S:=by have:=At.refl hw;unfold Wt;rw[show n+(([]:List D).length:Int)=n from qbj n];exact this
theorem Wt.two(w:Wt k i S0 n a S)(w':Wt k i S (n+a.length) b S1):Wt k i S0 n (a++b) S1:=by
 have:=At.trans w w';have e:n+(a.length:Int)+b.length=n+((a++b).length:Nat):=by rw[z5n];omega
 unfold Wt;rw[<-e];exact this
structure Top (a b h:Nat):Prop where
 l:a<h
 r:b<h
 e:h=a+1\/h=b+1
theorem zh2(a b:Nat):Top a b (max a b+1):=⟨by omega,by omega,by omega⟩
structure Res (k i:Nat) (S:Sto) (n:Int) (P:D->Prop) (ts:List D) (d:D) (h:Nat) (new:List D) (S':Sto):Prop where
 mm:Mk k d ts h
 wt:Wt k i S n new S'
 all:All (Ac P n new) d
theorem Res.after(w:Wt k i S0 n a S)(r:Res k i S (n+a.length) (Ac P n a) ts d h new S1):Res k i S0 n P ts d h (a++new) S1:=⟨r.mm,w.two r.wt,r.all.two⟩
theorem xx(hw:S[i]? = some (wd (zcd k) n))(ml:Mk k l lt lh)(mr:Mk k r rt rh)(ht:Thing k t)(h1:lh<=rh+1)(h2:rh<=lh+1)(hn:lt.length+1+rt.length<=2000)(al:All P l)(ar:All P r) :
   ∃d S' h,z6 [.obj i,l,t,r] S=some (d,S')/\Res k i S n P (lt++t::rt) d h [d] S'/\Top lh rh h :=
 ⟨_,_,_,zvx hw ml mr ht h1 h2 hn,⟨zvy ml mr ht h1 h2,At.set hw (by omega),.node (.inr ⟨0,rfl,(qbj n).symm⟩) al.old ar.old⟩,zh2 _ _⟩
theorem Tnd.ac{d':D}{n1:Int}(t:Tnd n d d' n1)(a:All P d):∃new:List D,n1=n+new.length/\All (Ac P n new) d'/\new.length<=1:=by
 cases t with
 |non=>exact⟨[],(qbj n).symm,.non,by simp⟩
 |node=>exact⟨[_],rfl,.node (.inr ⟨0,rfl,(qbj n).symm⟩) a.inv.1.old a.inv.2.old,by simp⟩
structure Pts (k i:Nat) (S:Sto) (n:Int) (P:D->Prop) (ts:List D) (h:Nat) (x t y:D) (xt yt:List D) (xh yh:Nat) (new:List D) (S':Sto):Prop where
 wt:Wt k i S n new S'
 mx:Mk k x xt xh
 my:Mk k y yt yh
 ht:Thing k t
 hts:ts=xt++t::yt
 hh:Top xh yh h
 h1:xh<=yh+1
 h2:yh<=xh+1
 ax:All (Ac P n new) x
 ay:All (Ac P n new) y
 few:new.length<=2
theorem zb2(m:Mk k d ts h)(hh:0<h)(hw:S[i]? = some (wd (zcd k) n))(al:All P d) :
   ∃x t y xt yt xh yh new S',kr [.obj i,d] S=some (.tup [x,t,y],S')/\Pts k i S n P ts h x t y xt yt xh yh new S':=by
 have m0:=m;cases m with
 |non=>omega
 | @node num a l t r lt rt lh rh ml mr ht h1 h2=>
   obtain⟨x,y,n',S',xt,yt,xh,yh,c,w,mx,my,e1,e2,q1,q2,q3,q⟩:=zrf m0 hw;rcases q with⟨_,rfl,rfl,rfl,rfl⟩ | ⟨_,n1,t1,t2⟩
   · exact⟨x,t,y,xt,yt,xh,yh,[],_,c,⟨Wt.nil hw,mx,my,q3,e1,e2▸zh2 _ _,q1,q2,al.inv.1.old,al.inv.2.old,by simp⟩⟩
   · obtain⟨a1,rfl,b1,c1⟩:=t1.ac al.inv.2;obtain⟨a2,rfl,b2,c2⟩:=t2.ac (al.inv.1.old (n:=n) (a:=a1));refine⟨x,t,y,xt,yt,xh,yh,a1++a2,S',c,⟨?_,mx,my,q3,e1,e2▸zh2 _ _,q1,q2,b1.app,b2.two,by rw[z5n];omega⟩⟩;have e:n+(a1.length:Int)+a2.length=n+((a1++a2).length:Nat):=by rw[z5n];omega
     unfold Wt;rw[<-e];exact w
theorem z1x(x y:Nat):ztj (.int x) (.int y)=some (.bl (decide (y<=x))):=z7k (fun b=>some (D.bl b)) (z7c.mpr Int.ofNat_le)
theorem z1v(x y:Nat):zd6 (.int x) (.int y)=some (.bl (decide (y<x))):=z7k (fun b=>some (D.bl b)) (z7c.mpr qbi)
theorem z4a(a b c:List D):(a++t::b).length+1+c.length=a.length+1+(b++x::c).length:=by simp only[z5n,List.length_cons];omega
theorem z4k(a b c:List D):a++t::(b++x::c)=a++t::b++x::c:=by simp
theorem z25{a b:List D}{m:Nat}(h:(a++t::b).length+1+m<=2000):b.length+1+m<=2000:=by simp only[z5n,List.length_cons]at h;omega
theorem z24{a b:List D}{m:Nat}(h:m+1+(a++t::b).length<=2000):m+1+a.length<=2000:=by simp only[z5n,List.length_cons]at h;omega
theorem z4i{a:List D}(h:a.length<=2):(a++[x]++[y]).length<=7:=by simp only[z5n,List.length_cons,List.length_nil];omega
theorem z4h{a b:List D}(h:a.length<=2)(h':b.length<=2):(a++b++[x]++[y]++[t]).length<=7:=by simp only[z5n,List.length_cons,List.length_nil];omega
theorem z3b{a b c:List D}{m:Nat}(h:(a++t::(b++x::c)).length+1+m<=2000):a.length+1+b.length<=2000:=by simp only[z5n,List.length_cons]at h;omega
theorem z3a{a b c:List D}{m:Nat}(h:(a++t::(b++x::c)).length+1+m<=2000):c.length+1+m<=2000:=by simp only[z5n,List.length_cons]at h;omega
theorem z29{a b c e:List D}(h:(a++t::(b++x::c)).length+1+e.length<=2000):(a++t::b).length+1+(c++y::e).length<=2000:=by simp only[z5n,List.length_cons]at h ⊢;omega
theorem z28{a b c:List D}{m:Nat}(h:m+1+(a++t::b++x::c).length<=2000):m+1+a.length<=2000:=by simp only[z5n,List.length_cons]at h;omega
theorem z27{a b c:List D}{m:Nat}(h:m+1+(a++t::b++x::c).length<=2000):b.length+1+c.length<=2000:=by simp only[z5n,List.length_cons]at h;omega
theorem z26{a b c e:List D}(h:e.length+1+(a++t::b++x::c).length<=2000):(e++y::a).length+1+(b++x::c).length<=2000:=by simp only[z5n,List.length_cons]at h ⊢;omega
theorem z5h(a b c e:List D):a++t::b++x::(c++y::e)=a++t::(b++x::c)++y::e:=by simp
theorem z5g(a b c e:List D):a++t::b++x::(c++y::e)=a++t::(b++x::c++y::e):=by simp
theorem up1{xh yh rh lh:Nat}(hh:lh=rh+2)(p:Top xh yh lh)(q1:xh<=yh+1)(q2:yh<=xh+1)(hg:yh<=xh):yh<=rh+1/\rh<=yh+1/\∀g,Top yh rh g->(xh<=g+1/\g<=xh+1/\∀z,Top xh g z->lh<=z/\z<=lh+1):=by obtain⟨p1,p2,p3⟩:=p;refine⟨by omega,by omega,fun g ⟨g1,g2,g3⟩=>⟨by omega,by omega,fun z ⟨z1,z2,z3⟩=>⟨by omega,by omega⟩⟩⟩
theorem up2{xh yh rh lh xh' yh':Nat}(hh:lh=rh+2)(p:Top xh yh lh)(q1:xh<=yh+1)(q2:yh<=xh+1)(hg:¬ yh<=xh)(p':Top xh' yh' yh)(q3:xh'<=yh'+1)(q4:yh'<=xh'+1) :
   (xh<=xh'+1/\xh'<=xh+1)/\(yh'<=rh+1/\rh<=yh'+1)/\∀g g',Top xh xh' g->Top yh' rh g'->(g<=g'+1/\g'<=g+1/\∀z,Top g g' z->lh<=z/\z<=lh+1):=by
 obtain⟨p1,p2,p3⟩:=p;obtain⟨p4,p5,p6⟩:=p';have e1:xh=rh:=by omega
 have e2:yh=rh+1:=by omega
 subst e1 e2;refine⟨⟨by omega,by omega⟩,⟨by omega,by omega⟩,fun g g' ⟨g1,g2,g3⟩ ⟨g4,g5,g6⟩=>?_⟩;have e3:g=xh+1:=by omega
 have e4:g'=xh+1:=by omega
 subst e3 e4;exact⟨by omega,by omega,fun z ⟨z1,z2,z3⟩=>⟨by omega,by omega⟩⟩
theorem Top.sym{a b h:Nat}(p:Top a b h):Top b a h:=⟨p.r,p.l,p.e.symm⟩
theorem zd7(hw:S[i]? = some (wd (zcd k) n))(ml:Mk k l lt lh)(mr:Mk k r rt rh)(ht:Thing k t)(hh:lh=rh+2)(hn:lt.length+1+rt.length<=2000)(al:All P l)(ar:All P r) :
   ∃d h new S',ym [.obj i,l,t,r] S=some (d,S')/\Res k i S n P (lt++t::rt) d h new S'/\(lh<=h/\h<=lh+1)/\new.length<=7:=by
 obtain⟨x,u,y,xt,yt,xh,yh,w1,S1,c1,p⟩:=zb2 ml (by omega) hw al;have e1:=p.hts;subst e1;have e2:=p.hh;have f1:=p.few;by_cases hg:yh<=xh
 · obtain⟨k1,k2,k3⟩:=up1 hh p.hh p.h1 p.h2 hg;have hge:ztj (.int xh) (.int yh)=some (.bl true):=by rw[z1x,z6b hg]
   clear hg;obtain⟨d1,S2,g1,c2,r2,t2⟩:=xx p.wt.at_ p.my mr ht k1 k2 (z25 hn) p.ay ar.old;have r2:=r2.after p.wt;obtain⟨k4,k5,k6⟩:=k3 _ t2;obtain⟨d2,S3,g2,c3,r3,t3⟩:=xx r2.wt.at_ p.mx r2.mm p.ht k4 k5 (by rw[<-z4a];exact hn) p.ax.app r2.all;have r3:=r3.after r2.wt;exact⟨d2,_,_,S3,j8 rfl (zm (zn (zi (a_c (e_v rfl) (a_c (e_v rfl) a_n)) c1)) (jb (qh (jf (e_2 (zi (a_c (qy (e_v rfl) e_k rfl) a_n) (qp p.mx S1)) (zi (a_c (qy (e_v rfl) e_k rfl) a_n) (qp p.my S1)) hge)) (zt (xc (e_v rfl) (qk p.wt.at_) (j0 _ _) (a_c (qy (e_v rfl) e_k rfl) (a_c (qy (e_v rfl) e_k rfl) (a_c (xc (e_v rfl) (qk p.wt.at_) (j0 _ _) (a_c (qy (e_v rfl) e_k rfl) (a_c (e_v rfl) (a_c (e_v rfl) a_n))) c2) a_n))) c3))))),z4k xt yt rt▸r3,k6 _ t3,z4i f1⟩
 · have hge:ztj (.int xh) (.int yh)=some (.bl false):=by rw[z1x,z54 hg]
   obtain⟨x',v,y',xt',yt',xh',yh',w2,S2,c2,p2⟩:=zb2 p.my (by omega) p.wt.at_ p.ay;have e3:=p2.hts;subst e3;obtain⟨⟨k1,k2⟩,⟨k3,k4⟩,k5⟩:=up2 hh p.hh p.h1 p.h2 hg p2.hh p2.h1 p2.h2;have f2:=p2.few;clear hg e2;have wt2:=p.wt.two p2.wt;obtain⟨d1,S3,g1,c3,r3,t3⟩:=xx wt2.at_ p.mx p2.mx p.ht k1 k2 (z3b hn) p.ax.app p2.ax.two;have r3:=r3.after wt2;obtain⟨d2,S4,g2,c4,r4,t4⟩:=xx r3.wt.at_ p2.my mr ht k3 k4 (z3a hn) p2.ay.two.app ar.old;have r4:=r4.after r3.wt;obtain⟨k6,k7,k8⟩:=k5 _ _ t3 t4;obtain⟨d3,S5,g3,c5,r5,t5⟩:=xx r4.wt.at_ r3.mm r4.mm p2.ht k6 k7 (z29 hn) r3.all.app r4.all;have r5:=r5.after r4.wt;exact⟨d3,_,_,S5,j8 rfl (zm (zn (zi (a_c (e_v rfl) (a_c (e_v rfl) a_n)) c1)) (zm (zu (jf (e_2 (zi (a_c (qy (e_v rfl) e_k rfl) a_n) (qp p.mx S1)) (zi (a_c (qy (e_v rfl) e_k rfl) a_n) (qp p.my S1)) hge))) (zm (zn (zi (a_c (e_v rfl) (a_c (qy (e_v rfl) e_k rfl) a_n)) c2)) (zm (zn (xc (e_v rfl) (qk wt2.at_) (j0 _ _) (a_c (qy (e_v rfl) e_k rfl) (a_c (qy (e_v rfl) e_k rfl) (a_c (qy (e_v rfl) e_k rfl) a_n))) c3)) (zm (zn (xc (e_v rfl) (qk r3.wt.at_) (j0 _ _) (a_c (qy (e_v rfl) e_k rfl) (a_c (e_v rfl) (a_c (e_v rfl) a_n))) c4)) (zt (xc (e_v rfl) (qk r4.wt.at_) (j0 _ _) (a_c (e_v rfl) (a_c (qy (e_v rfl) e_k rfl) (a_c (e_v rfl) a_n))) c5))))))),z5h xt xt' yt' rt▸r5,k8 _ t5,z4h f1 f2⟩
theorem zdg(hw:S[i]? = some (wd (zcd k) n))(ml:Mk k l lt lh)(mr:Mk k r rt rh)(ht:Thing k t)(hh:rh=lh+2)(hn:lt.length+1+rt.length<=2000)(al:All P l)(ar:All P r) :
   ∃d h new S',kt [.obj i,l,t,r] S=some (d,S')/\Res k i S n P (lt++t::rt) d h new S'/\(rh<=h/\h<=rh+1)/\new.length<=7:=by
 obtain⟨x,u,y,xt,yt,xh,yh,w1,S1,c1,p⟩:=zb2 mr (by omega) hw ar;have e1:=p.hts;subst e1;have e2:=p.hh;have f1:=p.few;by_cases hg:xh<=yh
 · obtain⟨k1,k2,k3⟩:=up1 hh p.hh.sym p.h2 p.h1 hg;have hge:ztj (.int yh) (.int xh)=some (.bl true):=by rw[z1x,z6b hg]
   clear hg;obtain⟨d1,S2,g1,c2,r2,t2⟩:=xx p.wt.at_ ml p.mx ht k2 k1 (z24 hn) al.old p.ax;have r2:=r2.after p.wt;obtain⟨k4,k5,k6⟩:=k3 _ t2.sym;obtain⟨d2,S3,g2,c3,r3,t3⟩:=xx r2.wt.at_ r2.mm p.my p.ht k5 k4 (by rw[z4a];exact hn) r2.all p.ay.app;have r3:=r3.after r2.wt;exact⟨d2,_,_,S3,j8 rfl (zm (zn (zi (a_c (e_v rfl) (a_c (e_v rfl) a_n)) c1)) (jb (qh (jf (e_2 (zi (a_c (qy (e_v rfl) e_k rfl) a_n) (qp p.my S1)) (zi (a_c (qy (e_v rfl) e_k rfl) a_n) (qp p.mx S1)) hge)) (zt (xc (e_v rfl) (qk p.wt.at_) (j0 _ _) (a_c (xc (e_v rfl) (qk p.wt.at_) (j0 _ _) (a_c (e_v rfl) (a_c (e_v rfl) (a_c (qy (e_v rfl) e_k rfl) a_n))) c2) (a_c (qy (e_v rfl) e_k rfl) (a_c (qy (e_v rfl) e_k rfl) a_n))) c3))))),(z4k lt xt yt).symm▸r3,k6 _ t3.sym,z4i f1⟩
 · have hge:ztj (.int yh) (.int xh)=some (.bl false):=by rw[z1x,z54 hg]
   obtain⟨x',v,y',xt',yt',xh',yh',w2,S2,c2,p2⟩:=zb2 p.mx (by omega) p.wt.at_ p.ax;have e3:=p2.hts;subst e3;obtain⟨⟨k1,k2⟩,⟨k3,k4⟩,k5⟩:=up2 hh p.hh.sym p.h2 p.h1 hg p2.hh.sym p2.h2 p2.h1;have f2:=p2.few;clear hg e2;have wt2:=p.wt.two p2.wt;obtain⟨d1,S3,g1,c3,r3,t3⟩:=xx wt2.at_ ml p2.mx ht k4 k3 (z28 hn) al.old p2.ax.two;have r3:=r3.after wt2;obtain⟨d2,S4,g2,c4,r4,t4⟩:=xx r3.wt.at_ p2.my p.my p.ht k2 k1 (z27 hn) p2.ay.two.app p.ay.app.app;have r4:=r4.after r3.wt;obtain⟨k6,k7,k8⟩:=k5 _ _ t4.sym t3.sym;obtain⟨d3,S5,g3,c5,r5,t5⟩:=xx r4.wt.at_ r3.mm r4.mm p2.ht k7 k6 (z26 hn) r3.all.app r4.all;have r5:=r5.after r4.wt;exact⟨d3,_,_,S5,j8 rfl (zm (zn (zi (a_c (e_v rfl) (a_c (e_v rfl) a_n)) c1)) (zm (zu (jf (e_2 (zi (a_c (qy (e_v rfl) e_k rfl) a_n) (qp p.my S1)) (zi (a_c (qy (e_v rfl) e_k rfl) a_n) (qp p.mx S1)) hge))) (zm (zn (zi (a_c (e_v rfl) (a_c (qy (e_v rfl) e_k rfl) a_n)) c2)) (zm (zn (xc (e_v rfl) (qk wt2.at_) (j0 _ _) (a_c (e_v rfl) (a_c (e_v rfl) (a_c (qy (e_v rfl) e_k rfl) a_n))) c3)) (zm (zn (xc (e_v rfl) (qk r3.wt.at_) (j0 _ _) (a_c (qy (e_v rfl) e_k rfl) (a_c (qy (e_v rfl) e_k rfl) (a_c (qy (e_v rfl) e_k rfl) a_n))) c4)) (zt (xc (e_v rfl) (qk r4.wt.at_) (j0 _ _) (a_c (e_v rfl) (a_c (qy (e_v rfl) e_k rfl) (a_c (e_v rfl) a_n))) c5))))))),z5g lt xt' yt' yt▸r5,k8 _ t5.sym,z4h f1 f2⟩
structure Hi (a b h:Nat):Prop where
 l:a<=h
 r:b<=h
 m:∀z,a<=z->b<=z->h<=z+1
theorem Top.hi{a b h:Nat}(p:Top a b h):Hi a b h:=⟨z7g p.l,z7g p.r,fun z h1 h2=>by rcases p.e with rfl | rfl<;>omega⟩
theorem zd3(hw:S[i]? = some (wd (zcd k) n))(ml:Mk k l lt lh)(mr:Mk k r rt rh)(ht:Thing k t)(h1:lh<=rh+2)(h2:rh<=lh+2)(hn:lt.length+1+rt.length<=2000)(al:All P l)(ar:All P r) :
   ∃d h new S',zap [.obj i,l,t,r] S=some (d,S')/\Res k i S n P (lt++t::rt) d h new S'/\Hi lh rh h/\(lh<=rh+1->rh<=lh+1->Top lh rh h)/\new.length<=7:=by
 have bl:=zbo ml mr S;by_cases hb:lh<=rh+1/\rh<=lh+1
 · rw[z6b hb]at bl;obtain⟨d1,S1,g1,c1,r1,t1⟩:=xx hw ml mr ht hb.1 hb.2 hn al ar;exact⟨d1,_,_,S1,j8 rfl (jb (qh (jf (zi (a_c (e_v rfl) (a_c (e_v rfl) a_n)) bl)) (zt (xc (e_v rfl) (qk hw) (j0 _ _) (a_c (e_v rfl) (a_c (e_v rfl) (a_c (e_v rfl) a_n))) c1)))),r1,t1.hi,fun _ _=>t1,z6q rfl⟩
 · rw[z54 hb]at bl;by_cases hg:rh<lh
   · have e:lh=rh+2:=by omega
     obtain⟨d1,h,w,S1,c1,r1,⟨q1,q2⟩,q3⟩:=zd7 hw ml mr ht e hn al ar;exact⟨d1,h,w,S1,j8 rfl (zm (zu (jf (zi (a_c (e_v rfl) (a_c (e_v rfl) a_n)) bl))) (jb (qh (jf (e_2 (zi (a_c (e_v rfl) a_n) (qp ml S)) (zi (a_c (e_v rfl) a_n) (qp mr S)) (by rw[z1v,z6b hg]))) (zt (zi (a_c (e_v rfl) (a_c (e_v rfl) (a_c (e_v rfl) (a_c (e_v rfl) a_n)))) c1))))),r1,⟨q1,z6h (z7g hg) q1,fun z z1 z2=>z6h q2 (Nat.succ_le_succ z1)⟩,fun u v=>absurd ⟨u,v⟩ hb,q3⟩
   · have e:rh=lh+2:=by omega
     obtain⟨d1,h,w,S1,c1,r1,⟨q1,q2⟩,q3⟩:=zdg hw ml mr ht e hn al ar;exact⟨d1,h,w,S1,j8 rfl (zm (zu (jf (zi (a_c (e_v rfl) (a_c (e_v rfl) a_n)) bl))) (zm (zu (jf (e_2 (zi (a_c (e_v rfl) a_n) (qp ml S)) (zi (a_c (e_v rfl) a_n) (qp mr S)) (by rw[z1v,z54 hg])))) (zt (zi (a_c (e_v rfl) (a_c (e_v rfl) (a_c (e_v rfl) (a_c (e_v rfl) a_n)))) c1)))),r1,⟨z6h (qae.mp hg) q1,q1,fun z z1 z2=>z6h q2 (Nat.succ_le_succ z2)⟩,fun u v=>absurd ⟨u,v⟩ hb,q3⟩
theorem Hi.sym{a b h:Nat}(p:Hi a b h):Hi b a h:=⟨p.r,p.l,fun z u v=>p.m z v u⟩
end Pg
namespace Pg
open PySem L2 F Mt
variable {k:Nat} [Kd k] {d l r t x y:D}{ts lt rt:List D}{h lh rh i:Nat}{n:Int}{S S0 S1:Sto}{ev e:Ev}{P Q:D->Prop}{a b new:List D}
theorem z39(x y:Nat):zb8 (.int x) (.int y)=some (.bl (decide (x<y))):=z7k (fun b=>some (D.bl b)) (z7c.mpr qbi)
theorem z4c(x y:Nat):znz (.int x) (.int y)=some (.bl (decide (x<=y))):=z7k (fun b=>some (D.bl b)) (z7c.mpr Int.ofNat_le)
theorem z23{x y:Nat}(h:x<y):zb8 (.int x) (.int y)=some (.bl true):=by rw[z39,z6b h]
theorem z1q{x y:Nat}(h:¬ x<y):zb8 (.int x) (.int y)=some (.bl false):=by rw[z39,z54 h]
theorem z4d{x y:Nat}(h:x<=y):znz (.int x) (.int y)=some (.bl true):=by rw[z4c,z6b h]
theorem z44{x y:Nat}(h:¬ x<=y):znz (.int x) (.int y)=some (.bl false):=by rw[z4c,z54 h]
theorem z4e{x y:Nat}(h:y<x):zd6 (.int x) (.int y)=some (.bl true):=by rw[z1v,z6b h]
theorem z4f{x y:Nat}(h:¬ y<x):zd6 (.int x) (.int y)=some (.bl false):=by rw[z1v,z54 h]
theorem z5a{x y:Nat}(h:x=y):zbc (.int x) (.int y)=some (.bl true):=by rw[zpe,h];simp
theorem z5b{x y:Nat}(h:x≠y):zbc (.int x) (.int y)=some (.bl false):=by rw[zpe];simp;omega
theorem zpj{f g:E}{p m q:Nat}(hf:f ev S=some (.int p,S))(hg:g ev S=some (.int m,S))(hq:p=m+1+q):e2 y7 (e2 y7 f g) (eK (.int 1)) ev S=some (.int q,S) :=
 e_2 (e_2 hf hg (sub_int _ _)) e_k (by rw[sub_int,show(p:Int)-m-1=q by omega])
def HB(m h:Nat):Prop:=m<2^h/\2^h<=2*m+1
theorem zwa{m a b:Nat}(hm:0<m)(ha:HB (m/2) a)(hb:HB ((m-1)/2) b):a<=b+1/\b<=a+1/\∀h,Top a b h->HB m h:=by
 obtain⟨a1,a2⟩:=ha;obtain⟨b1,b2⟩:=hb;have h1:b<=a:=by
   rcases z7r a b with q | q
   · have:=Nat.pow_le_pow_right (n:=2) (by decide) (show a+1<=b from q);rw[Nat.pow_succ]at this;omega
   · exact q
 have h2:a<=b+1:=by
   rcases z7r (b+1) a with q | q
   · have:=Nat.pow_le_pow_right (n:=2) (by decide) (show b+1+1<=a from q);rw[Nat.pow_succ,Nat.pow_succ]at this;omega
   · exact q
 refine⟨h2,by omega,fun h ⟨_,_,e⟩=>?_⟩;have e:h=a+1:=by omega
 subst e;unfold HB;rw[Nat.pow_succ];cases a with
 |zero=>rw[Nat.pow_zero]at a1 a2 ⊢;omega
 |succ a=>rw[Nat.pow_succ]at a1 a2 ⊢;omega
theorem z1e(p a c:List D):atI (p++a++t::c) (((p.length+a.length:Nat)):Int)=some t:=zf5 (by rw[z51 (by simp),z5n];simp)
theorem zzv:∀{ts:List D},ts≠[]->∃a t b,ts=a++t::b/\a.length=ts.length/2/\b.length=(ts.length-1)/2:=fun {ts} h=>by
 have hl:0<ts.length:=z9l.mpr h;have hm:ts.length/2<ts.length:=by omega
 refine⟨ts.take (ts.length/2),ts[ts.length/2],ts.drop (ts.length/2+1),?_,?_,?_⟩
 · rw[<-z60 hm,z7i]
 · rw[z6m];omega
 · rw[z6l];omega
theorem zf4:∀(f:Nat) {p ts q:List D}{n:Int}{S:Sto}{P:D->Prop},S[i]? = some (wd (zcd k) n)->(∀x∈ts,Thing k x)->ts.length<=2000->ts.length<2^f->∀{s e:Nat},s=p.length->e=p.length+ts.length ->
   ∃d h new S',zfr (f+1) [.obj i,.lst (p++ts++q),.int s,.int e] S=some (d,S')/\Res k i S n P ts d h new S'/\HB ts.length h
 | f,p,ts,q,n,S,P,hw,ht,hl,hf,s,e,hs,he=>by
   by_cases h0:ts=[]
   · subst h0;refine⟨.non,0,[],S,j8 rfl (jb (qh (jf (e_2 (e_v rfl) (e_v rfl) (z5a (by simp[hs,he])))) (zt e_k))),⟨.non,Wt.nil hw,.non⟩,by decide,by decide⟩
   · obtain⟨a,t,b,e0,la,lb⟩:=zzv h0;have hlen:0<ts.length:=z9l.mpr h0;cases f with
     |zero=>rw[Nat.pow_zero]at hf;omega
     | succ f=>
       rw[Nat.pow_succ]at hf;obtain⟨d1,h1,w1,S1,c1,r1,b1⟩:=zf4 f (p:=p) (ts:=a) (q:=t::b++q) (P:=P) hw (fun x hx=>ht x (by rw[e0];exact z6w _ hx)) (by omega) (by omega) hs rfl;obtain⟨d2,h2,w2,S2,c2,r2,b2⟩:=zf4 f (p:=p++a++[t]) (ts:=b) (q:=q) (P:=Ac P n w1) r1.wt.at_ (fun x hx=>ht x (by rw[e0];exact z57 _ (z5u _ hx))) (by omega) (by omega) (s:=p.length+a.length+1) (e:=e) (by simp;omega) (by simp;omega);have r2:=r2.after r1.wt;rw[la]at b1;rw[lb]at b2;obtain⟨q1,q2,q3⟩:=zwa hlen b1 b2;have e1:p++a++(t::b++q)=p++ts++q:=by rw[e0];simp
       have e2:p++a++[t]++b++q=p++ts++q:=by rw[e0];simp
       have e3:p++ts++q=p++a++t::(b++q):=by rw[e0];simp
       rw[e1]at c1;rw[e2]at c2;obtain⟨d3,S3,h3,c3,r3,t3⟩:=xx r2.wt.at_ r1.mm r2.mm (ht t (by rw[e0];simp)) q1 q2 (by omega) r1.all.app r2.all;have r3:=r3.after r2.wt;rw[<-e0]at r3;have em:yb (.int ((s:Int)+e)) (.int 2)=some (.int ((p.length+a.length:Nat):Int)):=by rw[zhe (by decide),show((s:Int)+e)/2=((p.length+a.length:Nat):Int) by omega]
       exact⟨d3,h3,_,S3,j8 rfl (zm (zu (jf (e_2 (e_v rfl) (e_v rfl) (z5b (by omega))))) (zm (zn (e_2 (e_2 (e_v rfl) (e_v rfl) (add_int _ _)) e_k em)) (zm (zn (zi (a_c (e_v rfl) (a_c (e_v rfl) (a_c (e_v rfl) (a_c (e_v rfl) a_n)))) c1)) (zm (zn (zi (a_c (e_v rfl) (a_c (e_v rfl) (a_c (e_2 (e_v rfl) e_k (add_int _ _)) (a_c (e_v rfl) a_n)))) c2)) (zt (xc (e_v rfl) (qk r2.wt.at_) (j0 _ _) (a_c (e_v rfl) (a_c (qy (e_v rfl) (e_v rfl) (by rw[e3];exact z1e _ _ _)) (a_c (e_v rfl) a_n))) c3)))))),r3,q3 _ t3⟩
theorem zlj(hw:S[i]? = some (wd (zcd k) n))(ht:∀x∈ts,Thing k x)(hl:ts.length<=2000):∃d h new S',qw [.obj i,.lst ts] S=some (d,S')/\Res k i S n P ts d h new S':=by obtain⟨d,h,new,S1,c,r,_⟩:=zf4 (i:=i) (k:=k) 39 (p:=[]) (ts:=ts) (q:=[]) (P:=P) hw ht hl (z70 hl (by decide)) (s:=0) (e:=ts.length) rfl (by simp);rw[List.nil_append,z6e]at c;exact⟨d,h,new,S1,j8 rfl (zm (x6 (zi (a_c (e_a (a_c (e_v rfl) a_n) rfl) a_n) (zh9 hl S))) (zt (zi (a_c (e_v rfl) (a_c (e_v rfl) (a_c e_k (a_c (e_a (a_c (e_v rfl) a_n) rfl) a_n)))) c))),r⟩
theorem z0n(a b:Bool):zbc (.bl a) (.bl b)=some (.bl (a==b)):=rfl
structure Seen (k:Nat) (us:List D) (h:Nat) (x t y:D) (c:Bool) (xt yt:List D) (xh yh:Nat):Prop where
 mx:Mk k x xt xh
 my:Mk k y yt yh
 ht:Thing k t
 hu:us=ord c xt++t::ord c yt
 hx:xh<h
 hy:yh<h
theorem zh6(m:Mk k d ts h)(hh:0<h)(b:Bool)(S:Sto):∃x t y c xt yt xh yh,zg3 [d,.bl b] S=some (.tup [x,t,y,.bl c],S)/\Seen k (ord b ts) h x t y c xt yt xh yh:=by
 cases m with
 |non=>omega
 | @node num a l t r lt rt lh rh ml mr ht h1 h2=>
   unfold mkD;by_cases e:a=b
   · subst e;exact⟨l,t,r,false,lt,rt,lh,rh,j8 rfl (jb (qh (jf (e_2 (qy (e_v rfl) e_k rfl) (e_v rfl) (by rw[z0n];simp))) (zt (zbx (a_c (qy (e_v rfl) e_k rfl) (a_c (qy (e_v rfl) e_k rfl) (a_c (qy (e_v rfl) e_k rfl) (a_c e_k a_n)))) (z6q rfl))))),ml,mr,ht,by cases a<;>simp[ord],by omega,by omega⟩
   · exact⟨r,t,l,true,rt,lt,rh,lh,j8 rfl (zm (zu (jf (e_2 (qy (e_v rfl) e_k rfl) (e_v rfl) (by rw[z0n];simp[e])))) (zt (zbx (a_c (qy (e_v rfl) e_k rfl) (a_c (qy (e_v rfl) e_k rfl) (a_c (qy (e_v rfl) e_k rfl) (a_c e_k a_n)))) (z6q rfl)))),mr,ml,ht,by cases a<;>cases b<;>simp_all [ord],by omega,by omega⟩
theorem zde(m:Mk k d ts h)(hl:ts≠[]):0<h:=by
 cases m with
 |non=>exact absurd rfl hl
 |node _ _ _ _ _=>omega
theorem ne_of{p:Nat}(h:ts[p]? = some x):ts≠[]:=fun e=>by rw[e]at h;cases h
theorem zth{c:Bool}(h:ord c ts≠[]):ts≠[]:=fun e=>h (by rw[e];cases c<;>rfl)
theorem za1:∀(f:Nat) {d:D}{ts:List D}{h p:Nat}{b:Bool},Mk k d ts h->h<=f->(ord b ts)[p]? = some x->∀S,zao f [d,.bl b,.int p] S=some (x,S)
 |0,d,ts,h,p,b,m,hf,hp,S=>absurd (zde m (zth (ne_of hp))) (qae.mpr hf)
 | f+1,d,ts,h,p,b,m,hf,hp,S=>by
   obtain⟨u,t,y,c,xt,yt,xh,yh,c1,s⟩:=zh6 m (zde m (zth (ne_of hp))) b S;have hu:=s.hu;rw[hu]at hp;have lx:=x9 c xt;have hx:=s.hx;have hy:=s.hy;have c2:=jo s.mx S;by_cases h1:p<xt.length
   · rw[z6n (by omega)]at hp;exact j8 rfl (zm (zn (zi (a_c (e_v rfl) (a_c (e_v rfl) a_n)) c1)) (zm (zn (zi (a_c (qy (e_v rfl) e_k rfl) a_n) c2)) (jb (qh (jf (e_2 (e_v rfl) (e_v rfl) (z23 h1))) (zt (zi (a_c (qy (e_v rfl) e_k rfl) (a_c (qy (e_v rfl) e_k rfl) (a_c (e_v rfl) a_n))) (za1 f s.mx (by omega) hp S)))))))
   · rw[z51 (by omega),lx]at hp;by_cases h2:xt.length<p
     · have e:p=xt.length+1+(p-xt.length-1):=by omega
       rw[show p-xt.length=(p-xt.length-1)+1 by omega,List.getElem?_cons_succ]at hp;exact j8 rfl (zm (zn (zi (a_c (e_v rfl) (a_c (e_v rfl) a_n)) c1)) (zm (zn (zi (a_c (qy (e_v rfl) e_k rfl) a_n) c2)) (zm (zu (jf (e_2 (e_v rfl) (e_v rfl) (z1q h1)))) (jb (qh (jf (e_2 (e_v rfl) (e_v rfl) (z4e h2))) (zt (zi (a_c (qy (e_v rfl) e_k rfl) (a_c (qy (e_v rfl) e_k rfl) (a_c (zpj (e_v rfl) (e_v rfl) e) a_n))) (za1 f s.my (by omega) hp S))))))))
     · rw[show p-xt.length=0 by omega,List.getElem?_cons_zero]at hp;cases hp;exact j8 rfl (zm (zn (zi (a_c (e_v rfl) (a_c (e_v rfl) a_n)) c1)) (zm (zn (zi (a_c (qy (e_v rfl) e_k rfl) a_n) c2)) (zm (zu (jf (e_2 (e_v rfl) (e_v rfl) (z1q h1)))) (zm (zu (jf (e_2 (e_v rfl) (e_v rfl) (z4f h2)))) (zt (qy (e_v rfl) e_k rfl))))))
end Pg
namespace Pg
open PySem L2 F Mt
variable {k:Nat} [Kd k] {d l r t x y:D}{ts lt rt:List D}{h lh rh i:Nat}{n:Int}{S S0 S1:Sto}{ev e:Ev}{P Q:D->Prop}{a b new:List D}
theorem h15(m:Mk k d ts h)(hl:ts.length<=2000):h<=15:=by
 have q:=zzi m;rcases z7r 15 h with z | z
 · have:low 16<=low h:=zfj z;have e:low 16=2583:=by decide
   omega
 · exact z
theorem o1{xh yh h g:Nat}(p:Top xh yh h)(q1:xh<=yh+1)(q2:yh<=xh+1)(g1:g<=xh)(g2:xh<=g+1):(g<=yh+2/\yh<=g+2)/\∀z,Hi g yh z->(g<=yh+1->yh<=g+1->Top g yh z)->z<=h/\h<=z+1:=by
 obtain⟨p1,p2,p3⟩:=p;refine⟨⟨by omega,by omega⟩,fun z hz ht=>?_⟩;by_cases hb:g<=yh+1/\yh<=g+1
 · obtain⟨t1,t2,t3⟩:=ht hb.1 hb.2;omega
 · have:=hz.r;have:=hz.m yh (by omega) (z5p _);omega
theorem zz5{a b c:List D}{m xh yh h:Nat}(p:Top xh yh h)(h1:a.length<=2)(h2:b.length<=9*xh+m)(h3:c.length<=7):(a++b++c).length<=9*h+m:=by have:=p.l;simp only[z5n];omega
theorem zz4{a b c:List D}{m xh yh h:Nat}(p:Top xh yh h)(h1:a.length<=2)(h2:b.length<=9*yh+m)(h3:c.length<=7):(a++b++c).length<=9*h+m:=zz5 p.sym h1 h2 h3
theorem zmn(m:Mk k d ts h):(d=.non/\ts=[]/\h=0)\/((∃xs,d=.tup xs)/\∃u rest,ts=u::rest):=by
 cases m with
 |non=>exact .inl ⟨rfl,rfl,rfl⟩
 | @node num a l t r lt rt lh rh _ _ _ _ _=>
   refine .inr ⟨⟨_,rfl⟩,?_⟩;cases e:ord a (lt++t::rt) with
   |nil=>exact absurd (z7k List.length e) (by rw[x9];simp)
   |cons u rest=>exact⟨u,rest,rfl⟩
theorem ztp(xs:List D):zf9 (.tup xs) .non=some (.bl false):=rfl
end Pg
namespace Pg
open PySem L2 F Mt
variable {k:Nat} [Kd k] {d l r t x y:D}{ts lt rt:List D}{h lh rh i:Nat}{n:Int}{S S0 S1:Sto}{ev e:Ev}{P Q:D->Prop}{a b new:List D}
theorem zxw{p:Nat}(h:p<=a.length):(a++t::b).take p=a.take p:=z8w h
theorem z0v{p:Nat}(h:p<=a.length):(a++t::b).drop p=a.drop p++t::b:=z8v h
theorem zxv{q:Nat}:(a++t::b).take (a.length+1+q)=a++t::b.take q:=by rw[List.take_append,z7d (by omega),show a.length+1+q-a.length=q+1 by omega,List.take_succ_cons]
theorem z0u{q:Nat}:(a++t::b).drop (a.length+1+q)=b.drop q:=by rw[List.drop_append,z79 (by omega),show a.length+1+q-a.length=q+1 by omega,List.drop_succ_cons,List.nil_append]
def turn(s e:Nat)(ts:List D):List D:=ts.take s++((ts.take e).drop s).reverse++ts.drop e
end Pg
namespace Pg
open PySem L2 F Mt
variable {k:Nat} [Kd k] {d l r t x y:D}{ts lt rt:List D}{h lh rh i:Nat}{n:Int}{S S0 S1:Sto}{ev e:Ev}{P Q:D->Prop}{a b new:List D}
theorem p1{xh yh h g:Nat}(p:Top xh yh h)(q1:xh<=yh+1)(q2:yh<=xh+1)(g1:xh<=g)(g2:g<=xh+1):(g<=yh+2/\yh<=g+2)/\∀z,Hi g yh z->(g<=yh+1->yh<=g+1->Top g yh z)->h<=z/\z<=h+1:=by
 obtain⟨p1,p2,p3⟩:=p;refine⟨⟨by omega,by omega⟩,fun z hz ht=>?_⟩;by_cases hb:g<=yh+1/\yh<=g+1
 · obtain⟨t1,t2,t3⟩:=ht hb.1 hb.2;omega
 · have:=hz.l;have:=hz.m g (z5p _) (by omega);omega
theorem z2r{p:Nat}(h:p<=a.length):(a++t::b).take p++x::(a++t::b).drop p=(a.take p++x::a.drop p)++t::b:=by rw[zxw h,z0v h];simp
theorem z2q{q:Nat}:(a++t::b).take (a.length+1+q)++x::(a++t::b).drop (a.length+1+q)=a++t::(b.take q++x::b.drop q):=by rw[zxv,z0u];simp
theorem znk(p:Nat):(ts.take p++x::ts.drop p).length=ts.length+1:=by simp only[z5n,List.length_cons,z6m,z6l];omega
theorem zc7:∀(f:Nat) {d:D}{ts:List D}{h p:Nat}{n:Int}{S:Sto}{P:D->Prop},S[i]? = some (wd (zcd k) n)->Mk k d ts h->ts.length<2000->p<=ts.length->Thing k x->All P d->h<f ->
   ∃d' h' new S',zcu f [.obj i,d,.int p,x] S=some (d',S')/\Res k i S n P (ts.take p++x::ts.drop p) d' h' new S'/\(h<=h'/\h'<=h+1)/\new.length<=9*h+1
 |0,_,_,_,_,_,_,_,_,_,_,_,_,_,hf=>absurd hf (z9u _)
 | f+1,d,ts,h,p,n,S,P,hw,m,hl,hp,ht,al,hf=>by
   rcases zmn m with⟨rfl,rfl,rfl⟩ | ⟨⟨xs,ed⟩,u0,r0,e0⟩
   · obtain⟨d1,S1,g1,c1,r1,t1⟩:=xx hw (.non (k:=k)) (.non (k:=k)) ht (qbm 0) (qbm 0) (by decide) (All.non (P:=P)) .non;have e:g1=1:=by have:=t1.e;omega
     subst e;exact⟨d1,1,_,S1,j8 rfl (jb (qh (jf (e_2 (e_v rfl) e_k rfl)) (zt (xc (e_v rfl) (qk hw) (j0 _ _) (a_c e_k (a_c (e_v rfl) (a_c e_k a_n))) c1)))),by simpa using r1,⟨z66 _,z5p _⟩,z5p _⟩
   · obtain⟨z,v,y,xt,yt,xh,yh,w1,S1,c1,q⟩:=zb2 m (zde m (by rw[e0];simp)) hw al;have e1:=q.hts;subst e1;have c2:=jo q.mx S1;have hx:=q.hh.l;have hy:=q.hh.r;have hi:zf9 d .non=some (.bl false):=by rw[ed];rfl
     simp only[z5n,List.length_cons]at hl hp;by_cases h1:p<=xt.length
     · obtain⟨d1,g,w2,S2,c3,r2,⟨b1,b2⟩,b3⟩:=zc7 f q.wt.at_ q.mx (by omega) h1 ht q.ax (by omega);have r2:=r2.after q.wt;obtain⟨⟨k1,k2⟩,k3⟩:=p1 q.hh q.h1 q.h2 b1 b2;obtain⟨d2,g2,w3,S3,c4,r3,b5,b6,b7⟩:=zd3 r2.wt.at_ r2.mm q.my q.ht k1 k2 (by rw[znk];omega) r2.all q.ay.app;have r3:=r3.after r2.wt;exact⟨d2,g2,_,S3,j8 rfl (zm (zu (jf (e_2 (e_v rfl) e_k hi))) (zm (zn (zi (a_c (e_v rfl) (a_c (e_v rfl) a_n)) c1)) (zm (zn (zi (a_c (qy (e_v rfl) e_k rfl) a_n) c2)) (jb (qh (jf (e_2 (e_v rfl) (e_v rfl) (z4d h1))) (zt (zi (a_c (e_v rfl) (a_c (zi (a_c (e_v rfl) (a_c (qy (e_v rfl) e_k rfl) (a_c (e_v rfl) (a_c (e_v rfl) a_n)))) c3) (a_c (qy (e_v rfl) e_k rfl) (a_c (qy (e_v rfl) e_k rfl) a_n)))) c4))))))),by rw[z2r h1];exact r3,k3 _ b5 b6,zz5 q.hh q.few b3 b7⟩
     · obtain⟨z',e⟩:∃z,p=xt.length+1+z:=⟨p-xt.length-1,by omega⟩
       obtain⟨d1,g,w2,S2,c3,r2,⟨b1,b2⟩,b3⟩:=zc7 f (p:=z') q.wt.at_ q.my (by omega) (by omega) ht q.ay (by omega);have r2:=r2.after q.wt;obtain⟨⟨k1,k2⟩,k3⟩:=p1 q.hh.sym q.h2 q.h1 b1 b2;obtain⟨d2,g2,w3,S3,c4,r3,b5,b6,b7⟩:=zd3 r2.wt.at_ q.mx r2.mm q.ht k2 k1 (by rw[znk];omega) q.ax.app r2.all;have r3:=r3.after r2.wt;exact⟨d2,g2,_,S3,j8 rfl (zm (zu (jf (e_2 (e_v rfl) e_k hi))) (zm (zn (zi (a_c (e_v rfl) (a_c (e_v rfl) a_n)) c1)) (zm (zn (zi (a_c (qy (e_v rfl) e_k rfl) a_n) c2)) (zm (zu (jf (e_2 (e_v rfl) (e_v rfl) (z44 h1)))) (zt (zi (a_c (e_v rfl) (a_c (qy (e_v rfl) e_k rfl) (a_c (qy (e_v rfl) e_k rfl) (a_c (zi (a_c (e_v rfl) (a_c (qy (e_v rfl) e_k rfl) (a_c (zpj (e_v rfl) (e_v rfl) e) (a_c (e_v rfl) a_n)))) c3) a_n)))) c4)))))),by rw[e,z2q];exact r3,k3 _ b5.sym fun u v=>(b6 v u).sym,zz4 q.hh q.few b3 b7⟩
theorem Top.eq{a b h h':Nat}(p:Top a b h)(q:Top a b h'):h'=h:=by obtain⟨p1,p2,p3⟩:=p;obtain⟨q1,q2,q3⟩:=q;omega
theorem z2m{p:Nat}(h:p<a.length):(a++t::b).set p x=a.set p x++t::b:=List.set_append_left _ _ h
theorem z2l:(a++t::b).set a.length x=a++x::b:=by rw[z98 _ _ (z5p _),z9n];rfl
theorem z2k{q:Nat}:(a++t::b).set (a.length+1+q) x=a++t::b.set q x:=by rw[z98 _ _ (by omega),show a.length+1+q-a.length=q+1 by omega];rfl
theorem zz7{a b:List D}{xh yh h:Nat}(p:Top xh yh h)(h1:a.length<=2)(h2:b.length<=3*xh):(a++b++[t]).length<=3*h:=by have:=p.l;simp only[z5n,List.length_cons,List.length_nil];omega
theorem zz6{a:List D}{h:Nat}(hh:0<h)(h1:a.length<=2):(a++[t]).length<=3*h:=by simp only[z5n,List.length_cons,List.length_nil];omega
theorem zfp:∀(f:Nat) {d:D}{ts:List D}{h p:Nat}{n:Int}{S:Sto}{P:D->Prop},S[i]? = some (wd (zcd k) n)->Mk k d ts h->ts.length<=2000->p<ts.length->Thing k x->All P d->h<=f ->
   ∃d' new S',zfq f [.obj i,d,.int p,x] S=some (d',S')/\Res k i S n P (ts.set p x) d' h new S'/\new.length<=3*h
 |0,d,ts,h,p,n,S,P,hw,m,hl,hp,ht,al,hf=>absurd (zde m (z9l.mp (by omega))) (qae.mpr hf)
 | f+1,d,ts,h,p,n,S,P,hw,m,hl,hp,ht,al,hf=>by
   have h0:=zde m (z9l.mp (by omega));obtain⟨z,v,y,xt,yt,xh,yh,w1,S1,c1,q⟩:=zb2 m h0 hw al;have e1:=q.hts;subst e1;have c2:=jo q.mx S1;have hx:=q.hh.l;have hy:=q.hh.r;simp only[z5n,List.length_cons]at hl hp;by_cases h1:p<xt.length
   · obtain⟨d1,w2,S2,c3,r2,b3⟩:=zfp f q.wt.at_ q.mx (by omega) h1 ht q.ax (by omega);have r2:=r2.after q.wt;obtain⟨d2,S3,g2,c4,r3,t3⟩:=xx r2.wt.at_ r2.mm q.my q.ht q.h1 q.h2 (by rw[z7m];omega) r2.all q.ay.app;have r3:=r3.after r2.wt;have eg:=q.hh.eq t3;subst eg;exact⟨d2,_,S3,j8 rfl (zm (zn (zi (a_c (e_v rfl) (a_c (e_v rfl) a_n)) c1)) (zm (zn (zi (a_c (qy (e_v rfl) e_k rfl) a_n) c2)) (jb (qh (jf (e_2 (e_v rfl) (e_v rfl) (z23 h1))) (zt (xc (e_v rfl) (qk q.wt.at_) (j0 _ _) (a_c (zi (a_c (e_v rfl) (a_c (qy (e_v rfl) e_k rfl) (a_c (e_v rfl) (a_c (e_v rfl) a_n)))) c3) (a_c (qy (e_v rfl) e_k rfl) (a_c (qy (e_v rfl) e_k rfl) a_n))) c4)))))),by rw[z2m h1];exact r3,zz7 q.hh q.few b3⟩
   · by_cases h2:xt.length<p
     · obtain⟨z',e⟩:∃z,p=xt.length+1+z:=⟨p-xt.length-1,by omega⟩
       obtain⟨d1,w2,S2,c3,r2,b3⟩:=zfp f (p:=z') q.wt.at_ q.my (by omega) (by omega) ht q.ay (by omega);have r2:=r2.after q.wt;obtain⟨d2,S3,g2,c4,r3,t3⟩:=xx r2.wt.at_ q.mx r2.mm q.ht q.h1 q.h2 (by rw[z7m];omega) q.ax.app r2.all;have r3:=r3.after r2.wt;have eg:=q.hh.eq t3;subst eg;exact⟨d2,_,S3,j8 rfl (zm (zn (zi (a_c (e_v rfl) (a_c (e_v rfl) a_n)) c1)) (zm (zn (zi (a_c (qy (e_v rfl) e_k rfl) a_n) c2)) (zm (zu (jf (e_2 (e_v rfl) (e_v rfl) (z1q h1)))) (jb (qh (jf (e_2 (e_v rfl) (e_v rfl) (z4e h2))) (zt (xc (e_v rfl) (qk q.wt.at_) (j0 _ _) (a_c (qy (e_v rfl) e_k rfl) (a_c (qy (e_v rfl) e_k rfl) (a_c (zi (a_c (e_v rfl) (a_c (qy (e_v rfl) e_k rfl) (a_c (zpj (e_v rfl) (e_v rfl) e) (a_c (e_v rfl) a_n)))) c3) a_n))) c4))))))),by rw[e,z2k];exact r3,zz7 q.hh.sym q.few b3⟩
     · have e:p=xt.length:=by omega
       obtain⟨d2,S3,g2,c4,r3,t3⟩:=xx q.wt.at_ q.mx q.my ht q.h1 q.h2 (by omega) q.ax q.ay;have r3:=r3.after q.wt;have eg:=q.hh.eq t3;subst eg;exact⟨d2,_,S3,j8 rfl (zm (zn (zi (a_c (e_v rfl) (a_c (e_v rfl) a_n)) c1)) (zm (zn (zi (a_c (qy (e_v rfl) e_k rfl) a_n) c2)) (zm (zu (jf (e_2 (e_v rfl) (e_v rfl) (z1q h1)))) (zm (zu (jf (e_2 (e_v rfl) (e_v rfl) (z4f h2)))) (zt (xc (e_v rfl) (qk q.wt.at_) (j0 _ _) (a_c (qy (e_v rfl) e_k rfl) (a_c (e_v rfl) (a_c (qy (e_v rfl) e_k rfl) a_n))) c4)))))),by rw[e,z2l];exact r3,zz6 h0 q.few⟩
theorem z06{p m:Nat}{f g w:E}(hp:p<m)(h0:f ev S=some (.int (0:Nat),S))(h1:g ev S=some (.int p,S))(h2:w ev S=some (.int m,S)):zhc znz zb8 f g w ev S=some (.bl true,S):=by simp only[zhc,h0,h1,h2,Option.bind_some,z4d (z66 p),z23 hp,Option.map_some]
theorem zcq{p m:Nat}(hp:p<m)(S:Sto):jl [.int p,.int m] S=some (.non,S):=z3w rfl (zu (z14 (jf (z06 hp e_k (e_v rfl) (e_v rfl)))))
theorem z1d{p:Nat}(m:Mk k d ts h)(hl:ts.length<=2000)(hp:ts[p]? = some x)(S:Sto):z1y [d,.int p] S=some (x,S) :=
 j8 rfl (zm (x6 (zi (a_c (e_v rfl) (a_c (zi (a_c (e_v rfl) a_n) (jo m S)) a_n)) (zcq (z5s.mp hp).1 S))) (zt (zi (a_c (e_v rfl) (a_c e_k (a_c (e_v rfl) a_n))) (za1 40 (b:=false) m (z6h (h15 m hl) (by decide)) hp S))))
theorem zue(x:Nat):qa (.int x) (.int 1)=some (.int (x+1:Nat)):=rfl
theorem zym{p:Nat}(hw:S[i]? = some (wd (zcd k) n))(m:Mk k d ts h)(hl:ts.length<2000)(hp:p<=ts.length)(ht:Thing k x)(al:All P d) :
   ∃d' h' new S',zlp [.obj i,d,.int p,x] S=some (d',S')/\Res k i S n P (ts.take p++x::ts.drop p) d' h' new S'/\new.length<=9*h+1:=by
 have h1:=h15 m (z7g hl);obtain⟨d',h',new,S1,c,r,_,b⟩:=zc7 40 hw m hl hp ht al (by omega);exact⟨d',h',new,S1,j8 rfl (zm (x6 (zi (a_c (e_v rfl) (a_c (e_2 (zi (a_c (e_v rfl) a_n) (jo m S)) e_k (zue _)) a_n)) (zcq (Nat.lt_succ_of_le hp) S))) (zm (x6 (zi (a_c (e_2 (zi (a_c (e_v rfl) a_n) (jo m S)) e_k (zue _)) a_n) (zh9 hl S))) (zt (zi (a_c (e_v rfl) (a_c (e_v rfl) (a_c (e_v rfl) (a_c (e_v rfl) a_n)))) c)))),r,b⟩
theorem zk4{p:Nat}(hw:S[i]? = some (wd (zcd k) n))(m:Mk k d ts h)(hl:ts.length<=2000)(hp:p<ts.length)(ht:Thing k x)(al:All P d) :
   ∃d' new S',zbq [.obj i,d,.int p,x] S=some (d',S')/\Res k i S n P (ts.set p x) d' h new S'/\new.length<=3*h:=by
 have h1:=h15 m hl;obtain⟨d',new,S1,c,r,b⟩:=zfp 40 hw m hl hp ht al (by omega);exact⟨d',new,S1,j8 rfl (zm (x6 (zi (a_c (e_v rfl) (a_c (zi (a_c (e_v rfl) a_n) (jo m S)) a_n)) (zcq hp S))) (zt (zi (a_c (e_v rfl) (a_c (e_v rfl) (a_c (e_v rfl) (a_c (e_v rfl) a_n)))) c))),r,b⟩
theorem zgh{q j:Nat}{v:E}{us:List D}(he:ev[q]? = some (some (.obj j)))(hj:S[j]? = some (.lst us))(hv:v ev S=some (x,S))(hl:us.length<16777216):ko (eV q) v ev S=some (.nx ev,S.set j (.lst (us++[x]))):=by have hz:sizeLine=16777216:=z7b;simp only[ko,e_v he,Option.bind_some,hj,hv,hz,z55 hl]
theorem zdu:∀(f:Nat) {d:D}{ts:List D}{h j:Nat}{b:Bool}{acc:List D}{S:Sto},Mk k d ts h->h<f->S[j]? = some (.lst acc)->acc.length+ts.length<16777216->zcv f [d,.bl b,.obj j] S=some (.non,S.set j (.lst (acc++ord b ts)))
 |0,_,_,_,_,_,_,_,_,hf,_,_=>absurd hf (z9u _)
 | f+1,d,ts,h,j,b,acc,S,m,hf,hj,hl=>by
   rcases zmn m with⟨rfl,rfl,rfl⟩ | ⟨⟨xs,ed⟩,u0,r0,e0⟩
   · rw[show ord b ([]:List D)=[] by cases b<;>rfl,z6e];have:S.set j (.lst acc)=S:=by obtain⟨hj',ej⟩:=z5s.mp hj;rw[<-ej];exact List.set_getElem_self hj'
     rw[this];exact j8 rfl (jb (qh (jf (e_2 (e_v rfl) e_k rfl)) rfl))
   · obtain⟨u,t,y,c,xt,yt,xh,yh,c1,s⟩:=zh6 m (zde m (by rw[e0];simp)) b S;have hi:zf9 d .non=some (.bl false):=by rw[ed];rfl
     have hu:=s.hu;have hlen:ts.length=xt.length+(yt.length+1):=by have:=z7k List.length hu;rw[x9,z5n,List.length_cons,x9,x9]at this;exact this
     have hx:=s.hx;have hy:=s.hy;have lx:=x9 c xt;have ly:=x9 c yt;have c2:=zdu f (b:=c) (S:=S) s.mx (by omega) hj (by omega);have j2:(S.set j (.lst (acc++ord c xt)))[j]? = some (.lst (acc++ord c xt)):=zm3 hj;have j3:((S.set j (.lst (acc++ord c xt))).set j (.lst (acc++ord c xt++[t])))[j]? = some (.lst (acc++ord c xt++[t])):=zm3 j2;have c3:=zdu f (b:=c) s.my (by omega) j3 (by simp only[z5n,List.length_cons,List.length_nil];omega);have e5:((S.set j (.lst (acc++ord c xt))).set j (.lst (acc++ord c xt++[t]))).set j (.lst (acc++ord c xt++[t]++ord c yt))=S.set j (.lst (acc++ord b ts)):=by rw[List.set_set,List.set_set,show acc++ord c xt++[t]++ord c yt=acc++ord b ts by rw[hu];simp]
     rw[e5]at c3;exact z3w rfl (zm (zu (jf (e_2 (e_v rfl) e_k hi))) (zm (zn (zi (a_c (e_v rfl) (a_c (e_v rfl) a_n)) c1)) (zm (x6 (zi (a_c (qy (e_v rfl) e_k rfl) (a_c (qy (e_v rfl) e_k rfl) (a_c (e_v rfl) a_n))) c2)) (zm (zgh rfl j2 (qy (e_v rfl) e_k rfl) (by simp only[z5n];omega)) (x6 (zi (a_c (qy (e_v rfl) e_k rfl) (a_c (qy (e_v rfl) e_k rfl) (a_c (e_v rfl) a_n))) c3))))))
def SB(S:Sto):Prop:=∀m∈S,zt8 S.length m=true
theorem zp5{m:Nat}(hx:Thing k x):bnd m x=true:=by obtain⟨_,⟨i,rfl⟩ | ⟨i,j,rfl⟩⟩:=hx<;>rfl
theorem zba{m:Nat}:∀{ts:List D},(∀x∈ts,Thing k x)->bndL m ts=true
 | [],_=>rfl
 | t::ts,h=>by unfold bndL;rw[zp5 (h t (z5z ..)),zba fun x hx=>h x (z5u _ hx)];rfl
theorem zsy(m:Nat)(n:Int):zt8 m (wd (zcd k) n)=true:=by rfl
theorem ju(m:Mk k d ts h)(hl:ts.length<=2000)(hb:SB S):z8 [d] S=some (.lst ts,S):=by
 have h1:=h15 m hl;have c1:=zdu 40 (b:=false) (S:=S++[.lst []]) (j:=S.length) (acc:=[]) m (by omega) (ziq S _) (by simp only[List.length_nil];omega);have e1:(S++[MO.lst []]).set S.length (.lst ([]++ord false ts))=S++[.lst ts]:=by simp[ord]
 rw[e1]at c1;have c2:z7 2 1 zd2 [d] S=some (.obj S.length,S++[.lst ts]):=j8 rfl (zm (zn (zt2 a_n (z66 _))) (zm (x6 (zi (a_c (e_v rfl) (a_c e_k (a_c (e_v rfl) a_n))) c1)) (zt (e_v rfl))));have e2:(S++[MO.lst ts]).take S.length=S:=qa0;have e3:S.all (zt8 S.length)=true:=z6y.mpr hb;unfold z8 frz;rw[c2];simp only[Option.bind_some,e2,e3,z7l,z72,z61,ziq,zba m.things]
end Pg
namespace Pg
open PySem L2 F Mt
variable {k:Nat} [Kd k] {d l r t x y:D}{ts lt rt:List D}{h lh rh i:Nat}{n:Int}{S S0 S1:Sto}{ev e:Ev}{P Q:D->Prop}{a b new:List D}
theorem z1f(m:Mk k d ts h):All (fun _=>True) d:=by
 induction m with
 |non=>exact .non
 |node _ _ _ _ _ il ir=>exact .node trivial il ir
theorem sx(m d v:Nat):HT.sIx m d (some (v:Int))=min v m:=by show(if(v:Int)<0 then ((v:Int)+(m:Int)).toNat else min (v:Int).toNat m)=min v m;rw[z6c (by omega),Int.toNat_natCast]
theorem zu2{s:Nat}(hs:s<=ts.length):z21 (.lst ts) (some (s:Int)) none=some (.lst (ts.drop s)):=by show some (D.lst ((ts.drop (HT.sIx ts.length 0 (some (s:Int)))).take (ts.length-HT.sIx ts.length 0 (some (s:Int)))))=_;rw[sx,qbg hs,z7d (by rw[z6l];omega)]
theorem zdd(m:Int){c:Nat}(hc:0<c):∃e:Nat,e<c/\q9 (.int m) (.int (c:Int))=some (.int e):=by have x0:=z87 m (show(c:Int)≠0 by omega);have x1:=z8h m (show(0:Int)<(c:Int) by omega);exact⟨(m%(c:Int)).toNat,by omega,by rw[zbk (by omega),show(((m%(c:Int)).toNat:Nat):Int)=m%(c:Int) by omega]⟩
theorem rng{c:Nat}(h:c<=10000):∀x∈jc 0 c,∃i:Int,x=.int i/\0<=i/\i<10000:=fun x hx=>by unfold jc at hx;obtain⟨j,hj,rfl⟩:=z7q.mp hx;have:=qaw.mp hj;exact⟨_,rfl,by omega,by omega⟩
theorem zia(c:Nat):(jc 0 c).length=c:=by simp[jc]
end Pg
namespace Pg
open PySem L2 F Mt
variable {k:Nat} [Kd k] {d l r t x y:D}{ts us lt rt:List D}{h lh rh i:Nat}{n:Int}{S S0 S1:Sto}{ev e:Ev}{P Q:D->Prop}
theorem zyc(ns:List Int){q:Int}(h0:0<=q)(h1:q<ns.length):∃v:Int,atI (ns.map D.int) q=some (.int v):=by
 have hi:q.toNat<ns.length:=by omega
 have e2:(ns.map D.int)[q.toNat]? = some (.int ns[q.toNat]):=by rw[z6u,z5v hi];rfl
 have e3:=zf5 e2;rw[show((q.toNat:Nat):Int)=q by omega]at e3;exact⟨_,e3⟩
theorem p30:zrg (.int 10) (.int 30)=some (.int (10^30)):=by
 have:z1m 10 30=some (10^30):=by unfold z1m;rw[z55 (by decide)];rfl
 simp only[zrg,F.opI,this];rfl
theorem yr(ns:List Int)(hn:ns.length<=63){q:Int}(h0:0<=q)(h1:q<=1000000):∃m:Int,0<=m/\m<999999937/\∀S,z5 [.lst (ns.map D.int),.int q] S=some (.int m,S):=by
 have len:∀S:Sto,zdj S [.lst (ns.map D.int)]=some (.int (ns.length:Int)):=fun S=>by simp[zdj]
 have first:∀(S:Sto),qm 2 (e2 qa (e2 j6 (e2 j6 (eV 1) (eV 1)) (eK (.int 7919))) (eK (.int 17))) [some (.lst (ns.map D.int)),some (.int q),none] S=some (.nx [some (.lst (ns.map D.int)),some (.int q),some (.int (q*q*7919+17))],S):=fun S=>
   zn (e_2 (e_2 (e_2 (e_v rfl) (e_v rfl) (zgv (by omega))) e_k (zgu (by decide))) e_k (add_int _ _))
 have last:∀(c:Int) (S:Sto),qi (e2 q9 (e2 j6 (e2 q9 (e2 qa (e2 j6 (eV 2) (eK (.int 48271))) (e2 j6 (eV 1) (eK (.int 69621)))) (eK (.int 2147483647))) (e2 qa (e2 q9 (eV 2) (eK (.int 65521))) (eK (.int 3)))) (eK (.int 999999937))) [some (.lst (ns.map D.int)),some (.int q),some (.int c)] S=some (.rt (.int ((c*48271+q*69621)%2147483647*(c%65521+3)%999999937)),S):=fun c S=>by have y0:=z87 (c*48271+q*69621) (show(2147483647:Int)≠0 by decide);have y1:=z8h (c*48271+q*69621) (show(0:Int)<2147483647 by decide);exact zt (e_2 (e_2 (e_2 (e_2 (e_2 (e_v rfl) e_k (zgu (by decide))) (e_2 (e_v rfl) e_k (zgu (by decide))) (add_int _ _)) e_k (zbk (by decide))) (e_2 (e_2 (e_v rfl) e_k (zbk (by decide))) e_k (add_int _ _)) (zgv (by omega))) e_k (zbk (by decide)))
 by_cases z:0<(ns.length:Int)
 · have x0:=z87 q (show(ns.length:Int)≠0 by omega);have x1:=z8h q z;obtain⟨v,hv⟩:=zyc ns x0 x1;refine⟨_,z87 _ (by decide),z8h _ (by decide),fun S=>j8 rfl (zm (first S) (zm (qh (jf (e_2 (e_a (a_c (e_v rfl) a_n) (len _)) e_k (show zd6 (.int (ns.length:Int)) (.int 0)=some (.bl true) by simp[zd6,opIB];omega)))
     (zn (e_2 (e_2 (qy (e_v rfl) (e_2 (e_v rfl) (e_a (a_c (e_v rfl) a_n) (len _)) (zbk z)) hv) (e_2 e_k e_k p30) (zbk (by decide))) (e_2 (e_2 (e_v rfl) (e_a (a_c (e_v rfl) a_n) (len _)) (zhe ⟨z,by omega⟩)) e_k (zgu (by decide))) (add_int _ _)))) (last _ S)))⟩
 · exact⟨_,z87 _ (by decide),z8h _ (by decide),fun S=>j8 rfl (zm (first S) (zm (zu (jf (e_2 (e_a (a_c (e_v rfl) a_n) (len _)) e_k (show zd6 (.int (ns.length:Int)) (.int 0)=some (.bl false) from(by show some (D.bl (decide ((0:Int)<(ns.length:Int))))=_;rw[z54 z]))))) (last _ S)))⟩
theorem zus{i:Nat}{f:E}{b:C}{n:Int}{o:Out}{S2:Sto}(h:f ev S=some (.int n,S1))(h0:0<=n)(h1:n<1000000)(q:za4 i b (jc 0 n.toNat) ev S1=some (o,S2)):zqw i f b ev S=some (o,S2):=by
 have cnd:-(2^62)<=n/\n<2^62:=by omega
 simp only[zqw,h,Option.bind_some,z55 cnd,q]
theorem zut{i:Nat}{f:E}{b:C}{ds:List D}{o:Out}{S2:Sto}(h:f ev S=some (.lst ds,S1))(q:za4 i b ds ev S1=some (o,S2)):zqx i f b ev S=some (o,S2):=by simp only[zqx,h,Option.bind_some,q]
theorem zod{i:Nat}{b:C}{d:D}{ds:List D}{e1:Ev}{o:Out}{S2:Sto}(h:b (ev.set i (some d)) S=some (.nx e1,S1))(q:za4 i b ds e1 S1=some (o,S2)):za4 i b (d::ds) ev S=some (o,S2):=by unfold za4;rw[h];exact q
theorem zb3{g:G}{ds us:List D}{J:Sto}(hS:SB S)(hg:g ds S=some (.lst us,S++J))(hb:bndL S.length us=true):frz g ds S=some (.lst us,S):=by unfold frz;rw[hg];have e1:(S++J).take S.length=S:=qa0;have e2:S.all (zt8 S.length)=true:=z6y.mpr hS;simp only[Option.bind_some,e1,e2,z7l,bnd,hb]
end Pg
namespace Pg
open PySem L2 F Mt
structure Sw (T:D->Prop) (lt:D->D->Bool):Prop where
 irr:∀x,T x->lt x x=false
 tr:∀x y z,T x->T y->T z->lt x y=true->lt y z=true->lt x z=true
 co:∀x y z,T x->T y->T z->lt x z=true->lt x y=true\/lt y z=true
section
variable {T:D->Prop}{lt:D->D->Bool}
def alk(lt:D->D->Bool)(x y:D):Prop:=lt x y=false/\lt y x=false
theorem alk.symm{x y:D}(h:alk lt x y):alk lt y x:=⟨h.2,h.1⟩
theorem Sw.asy(w:Sw T lt){x y:D}(hx:T x)(hy:T y)(h:lt x y=true):lt y x=false:=by
 cases q:lt y x with
 |false=>rfl
 |true=>have:=w.irr x hx;rw[w.tr x y x hx hy hx h q]at this;cases this
theorem Sw.refl(w:Sw T lt){x:D}(hx:T x):alk lt x x:=⟨w.irr x hx,w.irr x hx⟩
theorem Sw.trans(w:Sw T lt){x y z:D}(hx:T x)(hy:T y)(hz:T z)(h1:alk lt x y)(h2:alk lt y z):alk lt x z:=by
 constructor
 · cases q:lt x z with
   |false=>rfl
   | true => rcases w.co x y z hx hy hz q with r | r
             · rw[h1.1]at r;cases r
             · rw[h2.1]at r;cases r
 · cases q:lt z x with
   |false=>rfl
   | true => rcases w.co z y x hz hy hx q with r | r
             · rw[h2.2]at r;cases r
             · rw[h1.2]at r;cases r
theorem Sw.lt_alk(w:Sw T lt){x y z:D}(hx:T x)(hy:T y)(hz:T z)(h1:lt x y=true)(h2:alk lt y z):lt x z=true:=by
 rcases w.co x z y hx hz hy h1 with r | r
 · exact r
 · rw[h2.2]at r;cases r
theorem Sw.alk_lt(w:Sw T lt){x y z:D}(hx:T x)(hy:T y)(hz:T z)(h1:alk lt x y)(h2:lt y z=true):lt x z=true:=by
 rcases w.co y x z hy hx hz h2 with r | r
 · rw[h1.2]at r;cases r
 · exact r
def Srt(lt:D->D->Bool)(l:List D):Prop:=l.Pairwise fun x y=>lt x y=true
def Al(T:D->Prop)(l:List D):Prop:=∀x∈l,T x
theorem Al.tail{x:D}{l:List D}(h:Al T (x::l)):Al T l:=fun y hy=>h y (z5u _ hy)
theorem Al.head{x:D}{l:List D}(h:Al T (x::l)):T x:=h x (z5z ..)
inductive F2 (R:D->D->Prop):List D->List D->Prop
 |nil:F2 R [] []
 |cons {x y:D}{l m:List D}:R x y->F2 R l m->F2 R (x::l) (y::m)
theorem F2.len{R:D->D->Prop}{l m:List D}(h:F2 R l m):l.length=m.length:=by
 induction h with
 |nil=>rfl
 |cons _ _ ih=>rw[List.length_cons,List.length_cons,ih]
theorem zh8(w:Sw T lt){R:D->D->Prop}(hR:∀x y,R x y->alk lt x y):∀{l m:List D},Al T l->Al T m->Srt lt l->Srt lt m->(∀x∈l,∃y∈m,R x y)->(∀y∈m,∃x∈l,R x y)->F2 R l m
 | [],[],_,_,_,_,_,_=>.nil
 | [],y::m,_,_,_,_,_,h=>by obtain⟨x,hx,_⟩:=h y (z5z ..);cases hx
 |x::l,[],_,_,_,_,h,_=>by obtain⟨y,hy,_⟩:=h x (z5z ..);cases hy
 | x::l,y::m,al,am,sl,sm,h1,h2=>by
   obtain⟨sx,sl'⟩:=z6v.mp sl;obtain⟨sy,sm'⟩:=z6v.mp sm;have tx:=al.head;have ty:=am.head;have hxy:R x y:=by
     obtain⟨y',hy',r1⟩:=h1 x (z5z ..);rcases z5y.mp hy' with rfl | hy'
     · exact r1
     · obtain⟨x',hx',r2⟩:=h2 y (z5z ..);rcases z5y.mp hx' with rfl | hx'
       · exact r2
       · have e1:=w.lt_alk ty (am.tail y' hy') tx (sy y' hy') (hR _ _ r1).symm;have e2:=w.lt_alk tx (al.tail x' hx') ty (sx x' hx') (hR _ _ r2);rw[w.asy ty tx e1]at e2;cases e2
   refine .cons hxy (zh8 w hR al.tail am.tail sl' sm' (fun z hz=>?_) fun z hz=>?_)
   · obtain⟨u,hu,r⟩:=h1 z (z5u _ hz);rcases z5y.mp hu with rfl | hu
     · have e:=w.alk_lt tx (al.tail z hz) (al.tail z hz) |> fun _=>sx z hz;have:=w.trans tx ty (al.tail z hz) (hR _ _ hxy) (hR _ _ r).symm;rw[this.1]at e;cases e
     · exact⟨u,hu,r⟩
   · obtain⟨u,hu,r⟩:=h2 z (z5u _ hz);rcases z5y.mp hu with rfl | hu
     · have e:=sy z hz;have:=w.trans ty tx (am.tail z hz) (hR _ _ hxy).symm (hR _ _ r);rw[this.1]at e;cases e
     · exact⟨u,hu,r⟩
theorem zs6(w:Sw T lt){l m:List D}(al:Al T l)(am:Al T m)(sl:Srt lt l)(sm:Srt lt m)(h:∀x,x∈l↔x∈m):l=m:=by
 have e:F2 (fun x y=>x=y/\T x) l m:=zh8 w (R:=fun x y=>x=y/\T x) (fun x y r=>r.1▸w.refl r.2) al am sl sm (fun x hx=>⟨x,(h x).mp hx,rfl,al x hx⟩) fun x hx=>⟨x,(h x).mpr hx,rfl,am x hx⟩
 clear al am sl sm h
 induction e with
 |nil=>rfl
 |cons h _ ih=>rw[h.1,ih]
open Classical in
def hs(lt:D->D->Bool)(l:List D)(x:D):Bool:=decide (∃y∈l,alk lt y x)
open Classical in
theorem hs_iff{l:List D}{x:D}:hs lt l x=true↔∃y∈l,alk lt y x:=by unfold hs;exact qav
theorem hs_no{l:List D}{x:D}:hs lt l x=false↔∀y∈l,¬ alk lt y x:=by rw[z64,ne_eq,hs_iff];exact⟨fun h y hy r=>h ⟨y,hy,r⟩,fun h ⟨y,hy,r⟩=>h y hy r⟩
def cb(lt:D->D->Bool)(l:List D)(x:D):Nat:=(l.filter (lt · x)).length
theorem zt6(w:Sw T lt){a b:List D}{t x:D}(al:Al T (a++t::b))(tx:T x)(s:Srt lt (a++t::b)):cb lt (a++t::b) x=if lt t x=true then a.length+1+cb lt b x else cb lt a x:=by
 have tt:T t:=al t (by simp);obtain⟨sa,sb,sab⟩:=z5r.mp s;obtain⟨st,sb'⟩:=z6v.mp sb;unfold cb;rw[List.filter_append,z5n,qbc];split
 · rename_i h;have e:a.filter (lt · x)=a:=qal.mpr fun y hy=>w.tr y t x (al y (by simp[hy])) tt tx (sab y hy t (z5z ..)) h;rw[e,List.length_cons];omega
 · rename_i h;have e:b.filter (lt · x)=[]:=List.filter_eq_nil_iff.mpr fun y hy q=>h (w.tr t y x tt (al y (by simp[hy])) tx (st y hy) q);rw[e];simp
theorem zlx(l:List D)(x:D):cb lt l x<=l.length:=z7x ..
theorem zc1(w:Sw T lt){x:D}(tx:T x):∀{l:List D},Al T l->Srt lt l->(∀y∈l.take (cb lt l x),lt y x=true)/\(∀y∈l.drop (cb lt l x),lt y x=false)
 | [],_,_=>⟨fun y hy=>by simp at hy,fun y hy=>by simp at hy⟩
 | z::l,al,s=>by
   obtain⟨sz,sl⟩:=z6v.mp s;have e:=zt6 w (a:=[]) (b:=l) (t:=z) al tx s;rw[List.nil_append]at e;by_cases h:lt z x=true
   · rw[z55 h]at e;obtain⟨i1,i2⟩:=zc1 w tx al.tail sl;rw[e,show[].length+1+cb lt l x=cb lt l x+1 by simp;omega,List.take_succ_cons,List.drop_succ_cons];exact⟨fun y hy=>(z5y.mp hy).elim (fun q=>q▸h) (i1 y),i2⟩
   · rw[z6c h]at e;have e0:cb lt (z::l) x=0:=e;rw[e0];refine⟨fun y hy=>by simp at hy,fun y hy=>?_⟩;rcases z5y.mp hy with rfl | hy
     · exact z64.mpr h
     · exact z64.mpr fun q=>h (w.tr z y x al.head (al.tail y hy) tx (sz y hy) q)
theorem zrq(w:Sw T lt){x:D}(tx:T x){l:List D}(al:Al T l)(s:Srt lt l):hs lt l x=true↔∃y,l[cb lt l x]? = some y/\lt x y=false:=by
 obtain⟨h1,h2⟩:=zc1 w tx al s;constructor
 · intro h;obtain⟨y,hy,r⟩:=hs_iff.mp h;have hy':y∈l.drop (cb lt l x):=by
     rw[<-z7i (cb lt l x) l]at hy;rcases z6i.mp hy with q | q
     · have:=r.1;rw[h1 y q]at this;cases this
     · exact q
   cases q:l.drop (cb lt l x) with
   |nil=>rw[q]at hy';cases hy'
   | cons z m=>
     have hz:l[cb lt l x]? = some z:=by have:=z82 (xs:=l) (i:=cb lt l x) (j:=0);rw[q]at this;simpa using this.symm
     refine⟨z,hz,?_⟩;have sd:Srt lt (z::m):=q▸List.Pairwise.drop s;rw[q]at hy';rcases z5y.mp hy' with rfl | hm
     · exact r.2
     · cases g:lt x z with
       |false=>rfl
       | true=>
         have tz:=al z (z6j hz);have:=w.tr x z y tx tz (al y hy) g ((z6v.mp sd).1 y hm);rw[r.2]at this;cases this
 · intro⟨y,hy,r⟩;have hm:y∈l.drop (cb lt l x):=z6j (i:=0) (by rw[z82];simpa using hy);exact hs_iff.mpr ⟨y,z6j hy,h2 y hm,r⟩
def nxt(lt:D->D->Bool)(a:D):List D->List D
 | []=>[]
 |b::bs=>if lt a b=true then b::bs else bs
theorem zn2(a:D):nxt lt a []=[]:=rfl
theorem zcr(a d:D)(ds:List D):nxt lt a (d::ds)=if lt a d=true then d::ds else ds:=rfl
def mrg(lt:D->D->Bool):List D->List D->List D
 | [],bs=>bs
 |a::as,bs=>bs.takeWhile (lt · a)++a::mrg lt as (nxt lt a (bs.dropWhile (lt · a)))
theorem zxr{p:D->Bool}:∀{l:List D}{y:D},y∈l.takeWhile p->p y=true
 | [],y,h=>by cases h
 | x::l,y,h=>by
   by_cases q:p x=true
   · rw[qao q]at h;rcases z5y.mp h with rfl | h
     · exact q
     · exact zxr h
   · rw[qap q]at h;cases h
theorem zpo(w:Sw T lt){a:D}(ta:T a):∀{bs:List D},Al T bs->Srt lt bs->∀y∈bs.dropWhile (lt · a),lt y a=false
 | [],_,_,y,hy=>by cases hy
 | b::bs,al,s,y,hy=>by
   obtain⟨sb,s'⟩:=z6v.mp s;by_cases h:lt b a=true
   · rw[qaq (p:=(lt · a)) h]at hy;exact zpo w ta al.tail s' y hy
   · rw[qar (p:=(lt · a)) h]at hy;rcases z5y.mp hy with rfl | hy
     · exact z64.mpr h
     · exact z64.mpr fun q=>h (w.tr b y a al.head (al.tail y hy) ta (sb y hy) q)
theorem zn3{a y:D}{ds:List D}(h:y∈nxt lt a ds):y∈ds:=by
 cases ds with
 |nil=>exact h
 | cons d ds=>
   rw[zcr]at h;split at h
   · exact h
   · exact z5u _ h
theorem zzf(w:Sw T lt){a:D}(ta:T a){ds:List D}(al:Al T ds)(s:Srt lt ds)(h:∀y∈ds,lt y a=false):(∀y∈nxt lt a ds,lt a y=true)/\Srt lt (nxt lt a ds)/\∀y∈ds,y∈nxt lt a ds\/alk lt a y/\y∉nxt lt a ds:=by
 cases ds with
 |nil=>rw[zn2];exact⟨fun y hy=>(by cases hy),s,fun y hy=>(by cases hy)⟩
 | cons d ds=>
   obtain⟨sd,s'⟩:=z6v.mp s;rw[zcr];split
   · rename_i q;refine⟨fun y hy=>?_,s,fun y hy=>.inl hy⟩;rcases z5y.mp hy with rfl | hy
     · exact q
     · exact w.tr a d y ta al.head (al.tail y hy) q (sd y hy)
   · rename_i q;have q:lt a d=false:=z64.mpr q;have hd:=h d (z5z ..);refine⟨fun y hy=>w.alk_lt ta al.head (al.tail y hy) ⟨q,hd⟩ (sd y hy),s',fun y hy=>?_⟩;rcases z5y.mp hy with rfl | hy
     · exact .inr ⟨⟨q,hd⟩,fun z=>by have:=sd y z;rw[w.irr y al.head]at this;cases this⟩
     · exact .inl hy
theorem zeo(w:Sw T lt):∀{as bs:List D},Al T as->Al T bs->Srt lt as->Srt lt bs->Srt lt (mrg lt as bs)/\(∀x,x∈mrg lt as bs↔x∈as\/x∈bs/\hs lt as x=false)/\(mrg lt as bs).length=as.length+(bs.filter (fun x=>!hs lt as x)).length
 | [],bs,_,_,_,sb=>by
   have e:∀x,hs lt ([]:List D) x=false:=fun x=>hs_no.mpr fun y hy=>by cases hy
   refine⟨sb,fun x=>⟨fun h=>.inr ⟨h,e x⟩,fun h=>h.elim (fun z=>by cases z) fun z=>z.1⟩,?_⟩;show bs.length=0+_;rw[qal.mpr fun x _=>by rw[e x];rfl];omega
 | a::as,bs,al,am,sa,sb=>by
   obtain⟨sa1,sa2⟩:=z6v.mp sa;have ta:=al.head;have sp:bs=bs.takeWhile (lt · a)++bs.dropWhile (lt · a):=List.takeWhile_append_dropWhile.symm;have s0:Srt lt (bs.takeWhile (lt · a)++bs.dropWhile (lt · a)):=sp▸sb;obtain⟨s1,s2,s3⟩:=z5r.mp s0;have amD:Al T (bs.dropWhile (lt · a)):=fun y hy=>am y (sp▸z57 _ hy);have amT:Al T (bs.takeWhile (lt · a)):=fun y hy=>am y (sp▸z6w _ hy);have hT:∀y∈bs.takeWhile (lt · a),lt y a=true:=fun y hy=>zxr (p:=(lt · a)) hy;obtain⟨n1,n2,n3⟩:=zzf w ta amD s2 (zpo w ta am sb);have amN:Al T (nxt lt a (bs.dropWhile (lt · a))):=fun y hy=>amD y (zn3 hy);obtain⟨i1,i2,i3⟩:=zeo w al.tail amN sa2 n2;have hT0:∀y∈bs.takeWhile (lt · a),hs lt (a::as) y=false:=fun y hy=>hs_no.mpr fun z hz r=>by
     have ty:=amT y hy;rcases z5y.mp hz with rfl | hz
     · have:=r.2;rw[hT y hy]at this;cases this
     · have:=w.tr y a z ty ta (al.tail z hz) (hT y hy) (sa1 z hz);rw[r.2]at this;cases this
   have hN0:∀y,T y->lt a y=true->hs lt (a::as) y=hs lt as y:=fun y ty q=>by
     cases g:hs lt as y with
     |true=>obtain⟨z,hz,r⟩:=hs_iff.mp g;exact hs_iff.mpr ⟨z,z5u _ hz,r⟩
     | false=>
       exact hs_no.mpr fun z hz r=>by
         rcases z5y.mp hz with rfl | hz
         · have:=r.1;rw[q]at this;cases this
         · exact hs_no.mp g z hz r
   have inM:∀z∈mrg lt as (nxt lt a (bs.dropWhile (lt · a))),T z/\lt a z=true:=fun z hz=>by
     rcases(i2 z).mp hz with q | q
     · exact⟨al.tail z q,sa1 z q⟩
     · exact⟨amN z q.1,n1 z q.1⟩
   refine⟨?_,fun x=>?_,?_⟩
   · refine z5r.mpr ⟨s1,z6v.mpr ⟨fun z hz=>(inM z hz).2,i1⟩,fun y hy z hz=>?_⟩;rcases z5y.mp hz with rfl | hz
     · exact hT y hy
     · exact w.tr y a z (amT y hy) ta (inM z hz).1 (hT y hy) (inM z hz).2
   · show x∈bs.takeWhile (lt · a)++a::mrg lt as (nxt lt a (bs.dropWhile (lt · a)))↔_;rw[z6i,z5y];constructor
     · rintro(q | rfl | q)
       · exact .inr ⟨by rw[sp];exact z6w _ q,hT0 x q⟩
       · exact .inl (z5z ..)
       · rcases(i2 x).mp q with r | r
         · exact .inl (z5u _ r)
         · exact .inr ⟨by rw[sp];exact z57 _ (zn3 r.1),by rw[hN0 x (amN x r.1) (n1 x r.1)];exact r.2⟩
     · rintro(q | ⟨q,r⟩)
       · rcases z5y.mp q with rfl | q
         · exact .inr (.inl rfl)
         · exact .inr (.inr ((i2 x).mpr (.inl q)))
       · rw[sp]at q;rcases z6i.mp q with q | q
         · exact .inl q
         · rcases n3 x q with z | z
           · exact .inr (.inr ((i2 x).mpr (.inr ⟨z,by rw[<-hN0 x (amN x z) (n1 x z)];exact r⟩)))
           · exact absurd z.1 (hs_no.mp r a (z5z ..))
   · show(bs.takeWhile (lt · a)++a::mrg lt as (nxt lt a (bs.dropWhile (lt · a)))).length=(as.length+1)+_;have e1:(bs.takeWhile (lt · a)).filter (fun x=>!hs lt (a::as) x)=bs.takeWhile (lt · a):=qal.mpr fun y hy=>by rw[hT0 y hy];rfl
     have e2:((bs.dropWhile (lt · a)).filter (fun x=>!hs lt (a::as) x)).length=((nxt lt a (bs.dropWhile (lt · a))).filter (fun x=>!hs lt as x)).length:=by
       have key:(nxt lt a (bs.dropWhile (lt · a))).filter (fun x=>!hs lt (a::as) x)=(nxt lt a (bs.dropWhile (lt · a))).filter (fun x=>!hs lt as x):=List.filter_congr fun y hy=>by rw[hN0 y (amN y hy) (n1 y hy)]
       rw[<-key];generalize bs.dropWhile (lt · a)=ds at n1 n2 n3 amD amN;cases ds with
       |nil=>rfl
       | cons d ds=>
         rw[zcr]at n1 n2 n3 amN ⊢;split
         · rfl
         · rename_i q;have hd:alk lt a d:=by
             rcases n3 d (z5z ..)with z | z
             · exact absurd (n1 d z) q
             · exact z.1
           have:hs lt (a::as) d=true:=hs_iff.mpr ⟨a,z5z ..,hd⟩;rw[List.filter_cons_of_neg (by rw[this];simp)]
     rw[z5n,List.length_cons,i3]
     conv=>rhs;rw[sp,List.filter_append,z5n,e1,e2]
     omega
theorem zn8(w:Sw T lt){as bs:List D}(al:Al T as)(am:Al T bs)(sa:Srt lt as)(sb:Srt lt bs):Al T (mrg lt as bs):=fun x hx=>((zeo w al am sa sb).2.1 x).mp hx |>.elim (al x) fun z=>am x z.1
theorem zku(w:Sw T lt){a b:List D}(ta:Al T a)(tb:Al T b)(sa:Srt lt a)(sb:Srt lt b):(a.filter (hs lt b)).length=(b.filter (hs lt a)).length:=by
 have:=zh8 w (R:=alk lt) (fun x y r=>r) (fun x hx=>ta x (z67.mp hx).1) (fun x hx=>tb x (z67.mp hx).1) (qad _ sa) (qad _ sb) (l:=a.filter (hs lt b)) (m:=b.filter (hs lt a)) (fun x hx=>?_) fun y hy=>?_
 · exact this.len
 · obtain⟨h1,h2⟩:=z67.mp hx;obtain⟨y,hy,r⟩:=hs_iff.mp h2;exact⟨y,z67.mpr ⟨hy,hs_iff.mpr ⟨x,h1,r.symm⟩⟩,r.symm⟩
 · obtain⟨h1,h2⟩:=z67.mp hy;obtain⟨x,hx,r⟩:=hs_iff.mp h2;exact⟨x,z67.mpr ⟨hx,hs_iff.mpr ⟨y,h1,r.symm⟩⟩,r⟩
theorem zjk(w:Sw T lt){a b:List D}(ta:Al T a)(tb:Al T b)(sa:Srt lt a)(sb:Srt lt b):(mrg lt a b).length+(a.filter (hs lt b)).length=a.length+b.length:=by
 rw[(zeo w ta tb sa sb).2.2,zku w ta tb sa sb];have:∀l:List D,(l.filter (fun x=>!hs lt a x)).length+(l.filter (hs lt a)).length=l.length:=fun l=>by
   induction l with
   |nil=>rfl
   | cons x l ih=>
     rw[qbc,qbc];cases hs lt a x<;>simp<;>omega
 have:=this b;omega
end
variable {k:Nat} [Kd k] {d d0 l r t x y:D}{ts us rt:List D}{h i j g rh:Nat}{n:Int}{S S0 S1:Sto}{ev:Ev}{T:D->Prop}{lt:D->D->Bool}{bv:D}
theorem z11(w c:Int):zbc (.int w) (.int c)=some (.bl (decide (w=c))):=by rw[zpe];rfl
theorem zv1(w c:Int):zb8 (.int w) (.int c)=some (.bl (decide (w<c))):=rfl
structure Bf (k:Nat) (T:D->Prop) (lt:D->D->Bool) (bv:D):Prop where
 nc:∀x,T x->noC x=true
 ca:∀{q:Nat}{e1 e2:E}{ev:Ev}{S:Sto}{x y:D},zff S=true->ev[q]? = some (some bv)->e1 ev S=some (x,S)->e2 ev S=some (y,S)->T x->T y->xy ft zd8 zkr (eV q) (aC e1 (aC e2 aN)) ev S=some (.bl (lt x y),S)
 sw:Sw T lt
theorem bef{q:Nat}{e1 e2:E}(B:Bf k T lt bv)(hn:zff S=true)(hq:ev[q]? = some (some bv))(h1:e1 ev S=some (x,S))(h2:e2 ev S=some (y,S))(tx:T x)(ty:T y):xy ft zd8 zkr (eV q) (aC e1 (aC e2 aN)) ev S=some (.bl (lt x y),S):=B.ca hn hq h1 h2 tx ty
theorem zfx(B:Bf k T lt bv)(hn:zff S=true)(tx:T x):∀(q:Nat) {d:D}{ts:List D}{h:Nat}{b:Bool},Mk k d ts h->h<q->Al T (ord b ts)->Srt lt (ord b ts)->xm q [d,.bl b,x,bv] S=some (.int (cb lt (ord b ts) x:Nat),S)
 |0,_,_,_,_,_,hq,_,_=>absurd hq (z9u _)
 | q+1,d,ts,h,b,m,hq,al,s=>by
   rcases zmn m with⟨rfl,rfl,rfl⟩ | ⟨⟨xs,rfl⟩,u0,rest,e0⟩
   · have e:ord b ([]:List D)=[]:=by unfold ord;split<;>rfl
     rw[e];exact j8 rfl (jb (qh (jf (e_2 (e_v rfl) e_k rfl)) (zt e_k)))
   · have hh:0<h:=zde m (by rw[e0];simp);obtain⟨u,t,y,c,xt,yt,xh,yh,c1,sn⟩:=zh6 m hh b S;have hu:=sn.hu;have hx:=sn.hx;have hy:=sn.hy;rw[hu]at al s ⊢;have tt:T t:=al t (by simp);obtain⟨sa,sb,_⟩:=z5r.mp s;have sb':=(z6v.mp sb).2;have aX:Al T (ord c xt):=fun z hz=>al z (by simp[hz]);have aY:Al T (ord c yt):=fun z hz=>al z (by simp[hz]);rw[zt6 B.sw al tx s];have e1:bE (xy ft zd8 zkr (eV 3) (aC (e2s qj (eV 4) (eK (.int 1))) (aC (eV 2) aN))) [some (.tup xs),some (.bl b),some x,some bv,some (.tup [u,t,y,.bl c])] S=some (lt t x,S):=jf (bef B hn rfl (qy (e_v rfl) e_k rfl) (e_v rfl) tt tx);by_cases g:lt t x=true
     · rw[z55 g];rw[g]at e1;refine j8 rfl (zm (zu (jf (e_2 (e_v rfl) e_k (ztp xs)))) (zm (zn (zi (a_c (e_v rfl) (a_c (e_v rfl) a_n)) c1)) (jb (qh e1 (zt (e_2 (e_2 (zi (a_c (qy (e_v rfl) e_k rfl) a_n) (jo sn.mx S)) e_k (add_int _ _)) (zi (a_c (qy (e_v rfl) e_k rfl) (a_c (qy (e_v rfl) e_k rfl) (a_c (e_v rfl) (a_c (e_v rfl) a_n)))) (zfx B hn tx q sn.my (by omega) aY sb')) ?_))))));rw[add_int,x9];congr 2
     · have g':lt t x=false:=z64.mpr g;rw[z6c g];rw[g']at e1;exact j8 rfl (zm (zu (jf (e_2 (e_v rfl) e_k (ztp xs)))) (zm (zn (zi (a_c (e_v rfl) (a_c (e_v rfl) a_n)) c1)) (zm (zu e1) (zt (zi (a_c (qy (e_v rfl) e_k rfl) (a_c (qy (e_v rfl) e_k rfl) (a_c (e_v rfl) (a_c (e_v rfl) a_n)))) (zfx B hn tx q sn.mx (by omega) aX sa))))))
structure Ste (k:Nat) (T:D->Prop) (lt:D->D->Bool) (d:D) (ts:List D) (h:Nat):Prop where
 mm:Mk k d ts h
 al:Al T ts
 sr:Srt lt ts
theorem ya(B:Bf k T lt bv)(hn:zff S=true)(tx:T x)(s:Ste k T lt d ts h)(hl:ts.length<=2000):jn [d,x,bv] S=some (.int (cb lt ts x:Nat),S):=by have h1:=h15 s.mm hl;have:=zfx B hn tx 40 (b:=false) s.mm (by omega) (show Al T (ord false ts)from s.al) (show Srt lt (ord false ts)from s.sr);exact j8 rfl (zt (zi (a_c (e_v rfl) (a_c e_k (a_c (e_v rfl) (a_c (e_v rfl) a_n)))) this))
theorem zar(B:Bf k T lt bv)(hn:zff S=true)(tx:T x)(s:Ste k T lt d ts h)(hl:ts.length<=2000):ql [d,.int (cb lt ts x:Nat),x,bv] S=some (.bl (hs lt ts x),S):=by
 have hat:=zrq B.sw tx s.al s.sr;by_cases hp:cb lt ts x<ts.length
 · have hy:ts[cb lt ts x]? = some ts[cb lt ts x]:=z5v hp;have ty:=s.al _ (z8b hp);have e:hs lt ts x=!lt x ts[cb lt ts x]:=by
     rw[z9w,hat];constructor
     · rintro⟨y,q,r⟩;rw[hy]at q;cases q;rw[r];rfl
     · intro q;exact⟨_,hy,by cases g:lt x ts[cb lt ts x]with | false=>rfl | true=>rw[g]at q;cases q⟩
   rw[e];exact j8 rfl (zt (z0p (e_2 (e_v rfl) (zi (a_c (e_v rfl) a_n) (jo s.mm S)) ((zv1 _ _).trans (by rw[z6b (by omega)]))) (z0o (bef B hn rfl (e_v rfl) (zi (a_c (e_v rfl) (a_c (e_v rfl) a_n)) (z1d s.mm hl hy S)) tx ty))))
 · have e:hs lt ts x=false:=by
     cases g:hs lt ts x with
     |false=>rfl
     |true=>obtain⟨y,q,_⟩:=hat.mp g;exact absurd (z5s.mp q).1 hp
   rw[e];exact j8 rfl (zt (z0q (e_2 (e_v rfl) (zi (a_c (e_v rfl) a_n) (jo s.mm S)) ((zv1 _ _).trans (by rw[z54 (by omega)])))))
theorem ztq(B:Bf k T lt bv)(hn:zff S=true)(tx:T x)(s:Ste k T lt d ts h)(hl:ts.length<=2000):zru [d,x,bv] S=some (.bl (hs lt ts x),S) :=
 j8 rfl (zt (zi (a_c (e_v rfl) (a_c (zi (a_c (e_v rfl) (a_c (e_v rfl) (a_c (e_v rfl) a_n))) (ya B hn tx s hl)) (a_c (e_v rfl) (a_c (e_v rfl) a_n)))) (zar B hn tx s hl)))
end Pg
namespace Pg
open PySem L2 F Mt
variable {d d0 l r t x y:D}{ts us as bs rt:List D}{h i j g rh:Nat}{n:Int}{S S0 S1:Sto}{ev:Ev}{T:D->Prop}{lt:D->D->Bool}{bv:D}
def Ti(x:D):Prop:=∃i,x=.int i
def iv:D->Int
 | .int i=>i
 |_=>0
def fs:D->D
 | .tup (a::_)=>a
 |_=>.non
def TP(x:D):Prop:=∃i v,x=.tup [.int i,v]/\noC v=true
def ltI(x y:D):Bool:=decide (iv x<iv y)
def ltP(x y:D):Bool:=decide (iv (fs x)<iv (fs y))
theorem zx4(f:D->Int):Sw T fun x y=>decide (f x<f y) :=
 ⟨fun x _=>z54 (Int.lt_irrefl _),fun x y z _ _ _ p q=>z6b (Int.lt_trans (z63 p) (z63 q)),fun x y z _ _ _ p=>by
   have p:=z63 p;by_cases q:f x<f y
   · exact .inl (z6b q)
   · exact .inr (z6b (by omega))⟩
theorem alk_I:alk ltI x y↔iv x=iv y:=by unfold alk ltI;rw[z7o,z7o];omega
theorem alk_P:alk ltP x y↔iv (fs x)=iv (fs y):=by unfold alk ltP;rw[z7o,z7o];omega
theorem ztn(hx:Ti x)(hy:Ti y)(e:iv x=iv y):x=y:=by obtain⟨a,rfl⟩:=hx;obtain⟨b,rfl⟩:=hy;exact z7k D.int e
theorem zrr(al:Al Ti ts)(tx:Ti x):hs ltI ts x=true↔x∈ts:=by
 rw[hs_iff];constructor
 · rintro⟨y,hy,r⟩;exact ztn (al y hy) tx (alk_I.mp r)▸hy
 · exact fun h=>⟨x,h,alk_I.mpr rfl⟩
theorem zj4(a b:Int):yo [.int a,.int b] S=some (.bl (decide (a<b)),S):=j8 rfl (zt (e_2 (e_v rfl) (e_v rfl) (zv1 _ _)))
theorem zov:ft (Str.ofString "_law_less")=some yo:=z55 rfl
theorem bfI:Bf 0 Ti ltI (.fn (Str.ofString "_law_less")):=by
 refine⟨fun x hx=>?_,fun {q e1 e2 ev S x y} hn hq h1 h2 tx ty=>?_,zx4 iv⟩
 · obtain⟨a,rfl⟩:=hx;rfl
 · obtain⟨a,rfl⟩:=tx;obtain⟨b,rfl⟩:=ty;simp only[xy,e_v hq,Option.bind_some,zov,a_c h1 (a_c h2 a_n)];exact zj4 a b
theorem z04:zkr lt_0=some z1w:=by unfold zkr;rw[z55 rfl]
theorem zzx(tx:TP x)(ty:TP y):z1w ([x,y]++[.fn (Str.ofString "_law_less")]) S=some (.bl (ltP x y),S):=by obtain⟨a,v,rfl,_⟩:=tx;obtain⟨c,w,rfl,_⟩:=ty;show xy ft (fun _=>none) zlw (eV 2) (aC (e2s qj (eV 0) (eK (.int 0))) (aC (e2s qj (eV 1) (eK (.int 0))) aN)) [some (.tup [.int a,v]),some (.tup [.int c,w]),some (.fn (Str.ofString "_law_less"))] S=_;have av:aC (e2s qj (eV 0) (eK (.int 0))) (aC (e2s qj (eV 1) (eK (.int 0))) aN) [some (.tup [.int a,v]),some (.tup [.int c,w]),some (.fn (Str.ofString "_law_less"))] S=some ([.int a,.int c],S):=a_c (qy (e_v rfl) e_k rfl) (a_c (qy (e_v rfl) e_k rfl) a_n);have hv:eV 2 [some (.tup [.int a,v]),some (.tup [.int c,w]),some (.fn (Str.ofString "_law_less"))] S=some (.fn (Str.ofString "_law_less"),S):=e_v rfl;simp only[xy,hv,Option.bind_some,zov,av];exact zj4 a c
def bk:D:=.clo lt_0 [.fn (Str.ofString "_law_less")]
theorem zn5(hx:TP x):noC x=true:=by obtain⟨a,v,rfl,hv⟩:=hx;show(true&&(noC v&&true))=true;rw[hv];rfl
theorem bfP:Bf 0 TP ltP bk:=by
 refine⟨fun x hx=>zn5 hx,fun {q e1 e2 ev S x y} hn hq h1 h2 tx ty=>?_,zx4 fun x=>iv (fs x)⟩;have nn:(noCL [x,y]&&zg0 [.fn (Str.ofString "_law_less")]&&zff S)=true/\[x,y].length=lt_0.params.args.length:=⟨by rw[hn];simp only[noCL,zn5 tx,zn5 ty,Bool.and_true];rfl,rfl⟩
 have hq':eV q ev S=some (.clo lt_0 [.fn (Str.ofString "_law_less")],S):=e_v hq;simp only[xy,hq',Option.bind_some,z04,a_c h1 (a_c h2 a_n),z55 nn];exact zzx tx ty
theorem zqm(hx:Ti x):Thing 0 x:=⟨rfl,.inl hx⟩
theorem zkp{cn:B}{fr:Ev}{p:D->Bool}:∀(ds:List D),(∀x∈ds,cn (some x::fr) S=some (p x,S))->zd9 cn (eV 0) fr ds S=some (ds.filter p,S)
 | [],_=>rfl
 | x::ds,hc=>by
   have ih:=zkp ds fun y hy=>hc y (z5u _ hy);unfold zd9;rw[hc x (z5z ..)];simp only[Option.bind_some];cases g:p x with
   | true=>
     rw[z55 rfl,List.filter_cons_of_pos g];show((eV 0 (some x::fr) S).bind fun q=>(zd9 cn (eV 0) fr ds q.2).bind fun r=>some (q.1::r.1,r.2))=_;rw[show eV 0 (some x::fr) S=some (x,S)from rfl];simp only[Option.bind_some,ih]
   | false=>
     rw[z6c (by simp),List.filter_cons_of_neg (by rw[g];simp)];exact ih
theorem zhg{fr:List Nat}{e:E}{cn:B}{p:D->Bool}(he:e ev S=some (.lst ts,S))(hc:∀x∈ts,cn (some x::fr.map (zha ev)) S=some (p x,S)):jm fr (zht e) cn (eV 0) ev S=some (.lst (ts.filter p),S):=by unfold jm zht;rw[he];simp only[Option.bind_some,zat,zkp ts hc,Option.map_some]
theorem zwv{g:E}{fr:Ev}{ys ds:List D}(h:g (some x::fr) S=some (y,S))(ih:zd9 zl9 g fr ds S=some (ys,S)):zd9 zl9 g fr (x::ds) S=some (y::ys,S):=by unfold zd9;simp only[zl9,Option.bind_some,z7l,h,ih]
theorem zd1{g:E}{fr:Ev}{f:D->D}:∀{ds:List D},(∀x∈ds,g (some x::fr) S=some (f x,S))->zd9 zl9 g fr ds S=some (ds.map f,S)
 | [],_=>rfl
 |x::ds,h=>zwv (h x (z5z ..)) (zd1 fun z hz=>h z (z5u _ hz))
theorem z02{fr:List Nat}{e g:E}{f:D->D}(he:e ev S=some (.lst ts,S))(hc:∀x∈ts,g (some x::fr.map (zha ev)) S=some (f x,S)):jm fr (zht e) zl9 g ev S=some (.lst (ts.map f),S):=by unfold jm zht;rw[he];simp only[Option.bind_some,zat,zd1 hc,Option.map_some]
theorem z41{e:E}{n:Int}(h0:0<=n)(h1:n<=2000)(he:e ev S=some (.int n,S)):zxb e ev S=some ((jc 0 n.toNat,none),S):=by
 have hz:sizeLine=16777216:=z7b;have c:-(2^62)<=n/\n<2^62/\n<=(sizeLine:Int):=⟨by omega,by omega,by omega⟩
 simp only[zxb,he,Option.bind_some];rw[z55 c]
theorem z01{fr:List Nat}{e g:E}{m:Nat}{f:D->D}(hm:m<=2000)(he:e ev S=some (.int (m:Int),S))(hc:∀x∈jc 0 m,g (some x::fr.map (zha ev)) S=some (f x,S)):jm fr (zxb e) zl9 g ev S=some (.lst ((jc 0 m).map f),S):=by unfold jm;rw[(z41 (by omega) (by omega) he).trans (by rw[Int.toNat_natCast])];simp only[Option.bind_some,zat,zd1 hc,Option.map_some]
theorem zbn{c:D->List Int}(al:Al T ts):Al T (jp c ts):=fun x hx=>al x ((ji ts).mem_iff.mp hx)
theorem zrm(tx:Ti x):zes x=[iv x]:=by obtain⟨a,rfl⟩:=tx;rfl
theorem zzr(a b:Int):([a] < [b])↔a<b:=by rw[z7j];simp
theorem zg2(al:Al Ti ts)(hd:ts.Pairwise fun x y=>iv x≠iv y):Srt ltI (jp zes ts):=by
 have p1:=zdo (c:=zes) ts;have p2:(jp zes ts).Pairwise fun x y=>iv x≠iv y:=(ji ts).symm.pairwise hd fun h=>h.symm;have p3:(jp zes ts).Pairwise fun x y=>Ti x/\Ti y:=z9x fun x hx y hy=>⟨zbn al x hx,zbn al y hy⟩
 refine((p1.and p2).and p3).imp fun {x y} q=>z6b ?_;obtain⟨⟨q1,q2⟩,tx,ty⟩:=q;rw[zrm tx,zrm ty]at q1;by_cases g:iv x<iv y
 · exact g
 · exact absurd (z8i.mp fun z=>g ((zzr _ _).mp z)) fun z=>q2 (List.head_eq_of_cons_eq (qbb q1 z))
theorem zqs(al:Al Ti ts)(hd:ts.Pairwise fun x y=>iv x≠iv y):zk6 ts ts=some (jp zes ts):=by
 have hk:∀d∈ts,zfk d=0:=fun d hd=>by obtain⟨i,rfl⟩:=al d hd;rfl
 have hkn:kn ts=0:=by
   cases ts with
   |nil=>rfl
   |cons x ts=>exact hk _ (by simp)
 unfold zk6;have hcond:kn ts<4/\(∀d∈ts,zfk d=kn ts)/\(ts.map zes).Pairwise (·≠·):=by
   refine⟨by rw[hkn];decide,by rw[hkn];exact hk,?_⟩;rw[z7u];have p3:ts.Pairwise fun x y=>Ti x/\Ti y:=z9x fun x hx y hy=>⟨al x hx,al y hy⟩
   refine(hd.and p3).imp fun {x y} q e=>q.1 ?_;rw[zrm q.2.1,zrm q.2.2]at e;exact List.head_eq_of_cons_eq e
 rw[z55 hcond];have e:(ts.map zes).zip ts=ts.map (fun d=>(zes d,d)):=by
   clear al hd hk hkn hcond
   induction ts with
   |nil=>rfl
   |cons x ts ih=>rw[z5x,z5x,List.zip_cons_cons,ih]
 rw[e,zam (c:=zes) (c':=fun p:List Int×D=>p.1) (fun d=>(zes d,d)) (fun _=>rfl),z8g];exact z7k some (List.map_id _)
theorem zmw{f:E}(h:f ev S=some (.lst ts,S))(hl:ts.length<=100000)(al:Al Ti ts)(hd:ts.Pairwise fun x y=>iv x≠iv y):zew f ev S=some (.lst (jp zes ts),S):=by unfold zew;rw[h];simp only[Option.bind_some,z1k,z55 hl,zqs al hd,Option.map_some]
end Pg
namespace Pg
open PySem L2 F Mt
variable {k:Nat}{d l r t:D}{ts lt rt:List D}{h lh rh:Nat}{S S1 S2:Sto}{ev e:Ev}
theorem zne{u:B}{a b:R}(h:u ev S=some (true,S1)):rIf u a b ev S=a ev S1:=by simp[rIf,h]
theorem znf{u:B}{a b:R}(h:u ev S=some (false,S1)):rIf u a b ev S=b ev S1:=by simp[rIf,h]
theorem zid{c:C}{q:R}(h:c ev S=some (.nx e,S1)):zld c q ev S=q e S1:=by simp[zld,h]
theorem zb7{g:GR}{a:As}{ds:List D}(h:a ev S=some (ds,S1)):zcf g a ev S=g ds S1:=by simp[zcf,h]
theorem zu7{c:Str}{a:As}{ds:List D}(h:a ev S=some (ds,S1))(hl:ds.length<=16777216):zjs c a ev S=some (c,S1):=by have hz:sizeLine=16777216:=z7b;simp[zjs,h,hz,hl]
theorem zem{N n:Nat}{q:R}{ds:List D}(hl:ds.length=n):zcl N n q ds S=q (ds.map some++List.replicate (N-ds.length) none) S:=by simp[zcl,hl]
theorem ze5{c a:C}{q:R}{cat:Str->Bool}{i:Nat}(h:c ev S=some (.nx e,S1)):zu4 c q cat i a ev S=some (.nx e,S1):=by simp[zu4,h]
theorem zh4{c a:C}{q:R}{cat:Str->Bool}{i:Nat}{cls:Str}(h:c ev S=none)(hr:q ev S=some (cls,S1))(hc:cat cls=true)(ha:a (ev.set i (some (.obj S1.length))) (S1++[.exc cls])=some (.nx e,S2)) :
   zu4 c q cat i a ev S=some (.nx (e.set i none),S2):=by simp[zu4,h,hr,hc,ha]
theorem isx{u:Up}{j:Nat}{c:Str}{d:D}{b:Bool}(h:S[j]? = some (.exc c))(q:u.ask c d=some b):zto u S [.obj j,d]=some (.bl b):=by simp[zto,h,q]
theorem zot{x y:Int}(h:y<x):zd6 (.int x) (.int y)=some (.bl true):=by simp[zd6,F.opIB,h]
theorem zqp{c:B}{b:C}(h:c ev S=some (true,S1)):sIf c zc6 b ev S=none:=by simp[sIf,h,zc6]
theorem zex{N n:Nat}{c:C}{ds:List D}(h:c (ds.map some++List.replicate (N-ds.length) none) S=none):z7 N n c ds S=none:=by simp[z7,h]
theorem zjl{a b:C}(h:a ev S=none):qb a b ev S=none:=by simp[qb,h]
theorem x8{a b:C}(h:a ev S=some (.nx e,S1))(q:b e S1=none):qb a b ev S=none:=by simp[qb,h,q]
theorem zhd{f:E}(h:f ev S=none):za3 f ev S=none:=by simp[za3,h]
theorem zfa{f:E}(h:f ev S=none):qi f ev S=none:=by simp[qi,h]
theorem ze9{f:E}{i:Nat}(h:f ev S=none):qm i f ev S=none:=by simp[qm,h]
theorem xr{g:G}{a:As}{ds:List D}(h:a ev S=some (ds,S1))(q:g ds S1=none):zk g a ev S=none:=by simp[zk,h,q]
theorem ztu:∀(ys:List Str) (out:Str),out.length+(ys.map (·.length)).sum<=sizeLine->zwl ys out=true
 | [],out,h=>by simp only[zwl];exact z6b (by simpa using h)
 | y::ys,out,h=>by rw[z5x,List.sum_cons]at h;simp only[zwl,z6p,qa7];exact⟨by rw[Mt.str_len];omega,ztu ys (out++y) (by rw[Mt.str_len];omega)⟩
theorem z3n{g:As}{ds:List D}{ys:List Str}(h:g ev S=some (ds,S1))(q:zc4 ds=some ys)(hl:(ys.map (·.length)).sum<=16777216):z12 g ev S=some (.str (z13 ys Str.empty),S1):=by have hz:sizeLine=16777216:=z7b;have e0:(Str.empty).length=0:=rfl;simp[z12,h,q,ztu ys Str.empty (by omega)]
theorem zo2{m:Nat}(h:m<10000):zxd (.int m)=some (.str (toString (m:Int)))/\(Str.ofString (toString (m:Int))).length<=20:=by
 have hb:(m:Int).natAbs<2^19:=by simp;omega
 have hlog:(m:Int).natAbs.log2<19:=by
   by_cases h0:(m:Int).natAbs=0
   · rw[h0];decide
   · exact(Nat.log2_lt h0).mpr hb
 refine⟨?_,?_⟩
 · show(if(m:Int).natAbs.log2<1920 then some (D.str (toString (m:Int)))else none)=_;rw[z55 (by omega)]
 · have:=int_text_length_le (a:=(m:Int)) (k:=19) (by decide) hlog;rw[ofString_length];omega
theorem zgl{m:Nat}(h:2000<m)(S:Sto):xb [.int m] S=none:=zex (zqp (jf (e_2 (e_v rfl) e_k (zot (by omega)))))
theorem zjm{m:Nat}(h:2000<m)(h2:m<10000)(S:Sto):jg [.int m] S=some (Str.ofString "TooMany",S):=by
 obtain⟨f1,l1⟩:=zo2 h2;obtain⟨f2,l2⟩:=zo2 (m:=2000) (by decide);unfold jg;rw[zem (n:=1) rfl];unfold zbj;rw[zne (S1:=S) (jf (e_2 (e_v rfl) e_k (zot (by omega))))];refine zu7 (a_c (z3n (a_c e_k (a_c (e_1 e_k f2) (a_c e_k (a_c (e_1 (e_v rfl) f1) a_n)))) rfl ?_) a_n) (by simp);have e1:(Str.ofString "a make has at most ").length=19:=by rw[ofString_length];rfl
 have e2:(Str.ofString " things, not ").length=13:=by rw[ofString_length];rfl
 simp only[z5x,qbf,List.sum_cons,List.sum_nil,e1,e2];omega
end Pg
namespace Pg
open PySem L2 F Mt
variable {d d0 d1 d2 l r t x y:D}{ts us as bs acc rt:List D}{h i j g rh h1 h2:Nat}{n:Int}{S S0 S1:Sto}{ev:Ev}{T:D->Prop}{lt:D->D->Bool}{bv:D}{ks:List Int}
def tK:MO:=.tab "by_key" ((("by_key":Str)++".<locals>.")++"<lambda>")
def kv(ks:List Int):List (Int×D):=ks.map fun k=>(k,.bl true)
def Z(ks:List Int)(n:Int):Sto:=[tK,.dct (kv ks),wd (zcd 0) n]
theorem z16{new:List D}{T:Sto}(w:Wt 0 2 (Z ks n) n new T):T=Z ks (n+new.length):=by
 apply List.ext_getElem?;intro q
 match q with
 |0=>rw[w.ne 0 (by omega)];rfl
 |1=>rw[w.ne 1 (by omega)];rfl
 |2=>exact w.at_
 |q+3=>rw[w.ne (q+3) (by omega)];rfl
theorem zzl:∀ks:List Int,noCL ((kv ks).map (·.2))=true
 | []=>rfl
 | k::ks=>by show(true&&noCL ((kv ks).map (·.2)))=true;rw[zzl ks];rfl
theorem zv4(m:Nat):∀ks:List Int,bndL m ((kv ks).map (·.2))=true
 | []=>rfl
 | k::ks=>by show(true&&bndL m ((kv ks).map (·.2)))=true;rw[zv4 m ks];rfl
theorem zkz:zff (Z ks n)=true:=by show(noCL ((kv ks).map (·.2))&&true)=true;rw[zzl];rfl
theorem zf7:SB (Z ks n):=fun m hm=>by
 rcases z5y.mp hm with rfl | hm
 · rfl
 rcases z5y.mp hm with rfl | hm
 · exact zv4 _ ks
 rw[z6a.mp hm];exact zsy (k:=0) _ _
theorem zmi{c:B}{b:C}{f:Nat}(h:c ev S=some (false,S)):y4 c b (f+1) ev S=some (.nx ev,S):=by unfold y4;rw[h];rfl
theorem zxm{c:B}{b:C}{f:Nat}{ev':Ev}{S2:Sto}{o:Out}(h:c ev S=some (true,S))(hb:b ev S=some (.nx ev',S1))(hw:y4 c b f ev' S1=some (o,S2)):y4 c b (f+1) ev S=some (o,S2):=by unfold y4;rw[h];simp only[Option.bind_some,z7l,hb,hw]
theorem zjj{q:Nat}{v:E}(he:ev[q]? = some (some (.obj S.length)))(hv:v ev (S++[.lst us])=some (x,S++[.lst us]))(hl:us.length<16777216):ko (eV q) v ev (S++[.lst us])=some (.nx ev,S++[.lst (us++[x])]):=by have:=zgh (q:=q) (j:=S.length) (S:=S++[.lst us]) (us:=us) he (by simp) hv hl;simpa using this
theorem ztl(B:Bf 0 T lt bv):∀{l:List D},Al T l->noCL l=true
 | [],_=>rfl
 | x::l,h=>by unfold noCL;rw[B.nc x h.head,ztl B h.tail];rfl
theorem zjz(B:Bf 0 T lt bv)(hn:zff S=true)(ha:Al T acc):zff (S++[.lst acc])=true:=by unfold zff at *;rw[List.all_append,hn];show(true&&(z1o (.lst acc)&&true))=true;rw[show z1o (.lst acc)=noCL acc from rfl,ztl B ha];rfl
def wC:B:=(zhv (bE (e2 zb8 (eV 4) (eA zdj (aC (eV 1) aN)))) (bE (xy ft zd8 zkr (eV 2) (aC (e2s qj (eV 1) (eV 4)) (aC (eV 5) aN)))))
def wD:C:=(qb (ko (eV 3) (e2s qj (eV 1) (eV 4))) (qm 4 (e2 qa (eV 4) (eK (.int 1)))))
def mB:C:=(qb (zm7 5000 wC wD) (qb (ko (eV 3) (eV 5)) (sIf (zhv (bE (e2 zb8 (eV 4) (eA zdj (aC (eV 1) aN)))) (zhu (bE (xy ft zd8 zkr (eV 2) (aC (eV 5) (aC (e2s qj (eV 1) (eV 4)) aN)))))) (qm 4 (e2 qa (eV 4) (eK (.int 1)))) jy)))
def mE(S:Sto)(a0:D)(bs:List D)(bv:D)(p:Nat)(o:Option D):Ev:=[some a0,some (.lst bs),some bv,some (.obj S.length),some (.int p),o]
theorem lt_len{p:Nat}{a0:D}{o:Option D}{S':Sto}:bE (e2 zb8 (eV 4) (eA zdj (aC (eV 1) aN))) (mE S a0 bs bv p o) S'=some (decide (p<bs.length),S'):=by refine(jf (e_2 (e_v rfl) (e_a (a_c (e_v rfl) a_n) rfl) (zv1 _ _))).trans ?_;congr 2;rw[z7c];omega
theorem z3c{p:Nat}{a0:D}{o:Option D}{S':Sto}(hp:p<bs.length):e2s qj (eV 1) (eV 4) (mE S a0 bs bv p o) S'=some (bs[p],S'):=qy (e_v rfl) (e_v rfl) (zf5 (z5v hp))
theorem zsx(B:Bf 0 T lt bv)(hn:zff S=true)(a0:D){a:D}(ta:T a)(tb:Al T bs):∀(k p:Nat) (acc:List D),bs.length-p<k->p<=bs.length->Al T acc->acc.length+(bs.length-p)<16000000 ->
   y4 wC wD k (mE S a0 bs bv p (some a)) (S++[.lst acc])=some (.nx (mE S a0 bs bv (p+((bs.drop p).takeWhile (lt · a)).length) (some a)),S++[.lst (acc++(bs.drop p).takeWhile (lt · a))])/\p+((bs.drop p).takeWhile (lt · a)).length<=bs.length/\bs.drop (p+((bs.drop p).takeWhile (lt · a)).length)=(bs.drop p).dropWhile (lt · a)
 |0,p,acc,h,_,_,_=>absurd h (z9u _)
 | k+1,p,acc,h,hp,al,hl=>by
   have nn:=zjz B hn al;by_cases q:p<bs.length
   · have tp:=tb _ (z8b q);have e0:bs.drop p=bs[p]::bs.drop (p+1):=z60 q;have c1:wC (mE S a0 bs bv p (some a)) (S++[.lst acc])=some (lt bs[p] a,S++[.lst acc]):=zey (lt_len.trans (by rw[z6b q])) (jf (bef B nn rfl (z3c q) (e_v rfl) tp ta));cases g:lt bs[p] a with
     | true=>
       rw[g]at c1;obtain⟨w1,w2,w3⟩:=zsx B hn a0 ta tb k (p+1) (acc++[bs[p]]) (by omega) q (fun z hz=>(z6i.mp hz).elim (al z) fun e=>by rw[z6a.mp e];exact tp) (by simp;omega);have e1:(bs.drop p).takeWhile (lt · a)=bs[p]::(bs.drop (p+1)).takeWhile (lt · a):=by rw[e0,qao (p:=(lt · a)) g]
       have e2:(bs.drop p).dropWhile (lt · a)=(bs.drop (p+1)).dropWhile (lt · a):=by rw[e0,qaq (p:=(lt · a)) g]
       rw[e1,e2,List.length_cons,show p+(((bs.drop (p+1)).takeWhile (lt · a)).length+1)=p+1+((bs.drop (p+1)).takeWhile (lt · a)).length by omega];rw[z59,List.singleton_append]at w1;refine⟨zxm c1 ?_ w1,w2,w3⟩;exact zm (zjj rfl (z3c q) (by omega)) (zn (e_2 (e_v rfl) e_k (zue p)))
     | false=>
       rw[g]at c1;have e1:(bs.drop p).takeWhile (lt · a)=[]:=by rw[e0,qap (p:=(lt · a)) (by rw[g];simp)]
       have e2:(bs.drop p).dropWhile (lt · a)=bs.drop p:=by rw[e0,qar (p:=(lt · a)) (by rw[g];simp)]
       rw[e1,e2,z6e];exact⟨zmi c1,hp,rfl⟩
   · have e0:bs.drop p=[]:=List.drop_eq_nil_iff.mpr (by omega);rw[e0];have c1:wC (mE S a0 bs bv p (some a)) (S++[.lst acc])=some (false,S++[.lst acc]):=zkv (lt_len.trans (by rw[z54 q]));show y4 wC wD (k+1) (mE S a0 bs bv (p) (some a)) (S++[.lst acc])=some (.nx (mE S a0 bs bv (p+0) (some a)),S++[.lst (acc++[])])/\p+0<=bs.length/\bs.drop (p+0)=[]
     rw[z6e];exact⟨zmi c1,hp,e0⟩
theorem zj2(B:Bf 0 T lt bv)(hn:zff S=true)(a0:D)(tb:Al T bs):∀(as:List D),Al T as->∀(p:Nat) (acc:List D) (o:Option D),p<=bs.length->Al T acc->acc.length+as.length+(bs.length-p)<1000000->bs.length<4000 ->
   ∃p' acc' o',za4 5 mB as (mE S a0 bs bv p o) (S++[.lst acc])=some (.nx (mE S a0 bs bv p' o'),S++[.lst acc'])/\p'<=bs.length/\acc'++bs.drop p'=acc++mrg lt as (bs.drop p)/\Al T acc'/\acc'.length+(bs.length-p')<=acc.length+as.length+(bs.length-p)
 | [],_,p,acc,o,hp,al,hl,hb=>⟨p,acc,o,rfl,hp,rfl,al,by simp⟩
 | a::as,ta,p,acc,o,hp,al,hl,hb=>by
   rw[List.length_cons]at hl;obtain⟨w1,w2,w3⟩:=zsx (S:=S) B hn a0 ta.head tb 5000 p acc (by omega) hp al (by omega);have tw:Al T ((bs.drop p).takeWhile (lt · a)):=fun z hz=>tb z (z9e ((List.takeWhile_sublist _).subset hz));have lw:((bs.drop p).takeWhile (lt · a)).length<=bs.length-p:=by omega
   generalize e1:(bs.drop p).takeWhile (lt · a)=tk at w1 w2 w3 tw lw;have al2:Al T (acc++tk++[a]):=fun z hz=>by
     rcases z6i.mp hz with q | q
     · exact(z6i.mp q).elim (al z) (tw z)
     · rw[z6a.mp q];exact ta.head
   have nn:=zjz B hn al2;have s2:ko (eV 3) (eV 5) (mE S a0 bs bv (p+tk.length) (some a)) (S++[.lst (acc++tk)])=some (.nx (mE S a0 bs bv (p+tk.length) (some a)),S++[.lst (acc++tk++[a])]):=zjj rfl (e_v rfl) (by rw[z5n];omega);have third:∃p2,p2<=bs.length/\p+tk.length<=p2/\bs.drop p2=nxt lt a ((bs.drop p).dropWhile (lt · a))/\sIf (zhv (bE (e2 zb8 (eV 4) (eA zdj (aC (eV 1) aN)))) (zhu (bE (xy ft zd8 zkr (eV 2) (aC (eV 5) (aC (e2s qj (eV 1) (eV 4)) aN)))))) (qm 4 (e2 qa (eV 4) (eK (.int 1)))) jy (mE S a0 bs bv (p+tk.length) (some a)) (S++[.lst (acc++tk++[a])])=some (.nx (mE S a0 bs bv p2 (some a)),S++[.lst (acc++tk++[a])]):=by
     rw[<-w3];by_cases q:p+tk.length<bs.length
     · have e0:bs.drop (p+tk.length)=bs[p+tk.length]::bs.drop (p+tk.length+1):=z60 q;have c1:=bef (ev:=mE S a0 bs bv (p+tk.length) (some a)) (e1:=eV 5) (e2:=e2s qj (eV 1) (eV 4)) (q:=2) B nn rfl (e_v rfl) (z3c q) ta.head (tb _ (z8b q));rw[e0,zcr];cases g:lt a bs[p+tk.length] with
       | true=>
         rw[g]at c1;exact⟨p+tk.length,w2,z5p _,by rw[z55 rfl,<-e0],zu (zey (lt_len.trans (by rw[z6b q])) (z14 (jf c1)))⟩
       | false=>
         rw[g]at c1;exact⟨p+tk.length+1,q,by omega,by rw[z6c (by simp)],qh (zey (lt_len.trans (by rw[z6b q])) (z5f (jf c1))) (zn (e_2 (e_v rfl) e_k (zue _)))⟩
     · have e0:bs.drop (p+tk.length)=[]:=List.drop_eq_nil_iff.mpr (by omega);rw[e0,zn2];exact⟨p+tk.length,w2,z5p _,e0,zu (zkv (lt_len.trans (by rw[z54 q])))⟩
   obtain⟨p2,h1,h2,h3,c3⟩:=third;obtain⟨p',acc',o',lp,i1,i2,i3,i4⟩:=zj2 B hn a0 tb as ta.tail p2 (acc++tk++[a]) (some a) h1 al2 (by simp only[z5n,List.length_cons,List.length_nil];omega) hb;refine⟨p',acc',o',zod (zm w1 (zm s2 c3)) lp,i1,?_,i3,by simp only[z5n,List.length_cons,List.length_nil]at i4 ⊢;omega⟩;rw[i2,h3];show acc++tk++[a]++_=acc++((bs.drop p).takeWhile (lt · a)++a::mrg lt as (nxt lt a ((bs.drop p).dropWhile (lt · a))))
   rw[e1];simp
theorem zob(B:Bf 0 T lt bv)(hn:zff S=true)(hS:SB S)(ta:Al T as)(tb:Al T bs)(la:as.length<=2000)(lb:bs.length<=2000)(tm:Al T (mrg lt as bs))(hth:∀x,T x->Thing 0 x):zbr [.lst as,.lst bs,bv] S=some (.lst (mrg lt as bs),S):=by
 obtain⟨p',acc',o',lp,i1,i2,i3,i4⟩:=zj2 (S:=S) B hn (.lst as) tb as ta 0 [] none (z66 _) (fun z hz=>by cases hz) (by simp;omega) (by omega);rw[z9g,List.nil_append]at i2;refine zb3 (J:=[.lst acc']) hS (j8 rfl (zm (zn (zt2 a_n (z66 _))) (zm (zn e_k) (zm (zut (ds:=as) (e_v rfl) lp) (zt (qy (e_v rfl) (z5c (e_v rfl) (p_e (e_v rfl)) p_n (zu2 i1)) ?_)))))) (zba (k:=0) fun x hx=>hth x (tm x hx));rw[<-i2];have hz:sizeLine=16777216:=z7b;have hl:acc'.length+(bs.drop p').length<=sizeLine:=by rw[hz,z6l];simp at i4;omega
 simp only[zgs,z51 (z5p _),z9n,List.getElem?_cons_zero,z55 hl]
end Pg
namespace Pg
open PySem L2 F Mt
variable {d d0 d1 d2 l r t x y:D}{ts us as bs acc rt:List D}{h i j g rh h1 h2:Nat}{n:Int}{S S0 S1:Sto}{ev:Ev}{T:D->Prop}{lt:D->D->Bool}{bv:D}{ks:List Int}
abbrev TM:Str:=Str.ofString "TooMany"
abbrev LS:D:=.fn (Str.ofString "_law_less")
theorem zn9(ht:∀x∈ts,Thing 0 x)(hl:ts.length<=2000):∃d h n',qw [.obj 2,.lst ts] (Z ks n)=some (d,Z ks n')/\Mk 0 d ts h:=by obtain⟨d,h,new,T1,c,rr⟩:=zlj (k:=0) (i:=2) (n:=n) (P:=fun _=>True) (S:=Z ks n) rfl ht hl;have eT:=z16 rr.wt;subst eT;exact⟨d,h,_,c,rr.mm⟩
theorem zvz(h:2000<ts.length)(h2:ts.length<10000):qw [.obj 2,.lst ts] S=none/\k9 [.obj 2,.lst ts] S=some (TM,S):=by refine⟨zex (zjl (zhd (xr (a_c (e_a (a_c (e_v rfl) a_n) rfl) a_n) (zgl h S)))),?_⟩;unfold k9;rw[zem (n:=2) rfl];unfold zel;rw[zb7 (a_c (e_a (a_c (e_v rfl) a_n) rfl) a_n)];exact zjm h h2 S
theorem zw4{p:D->Bool}(h:Al T ts):Al T (ts.filter p):=fun x hx=>h x (z67.mp hx).1
theorem zx5{p:D->Bool}(h:Srt lt ts):Srt lt (ts.filter p):=qad _ h
abbrev St(d:D)(ts:List D)(h:Nat):Prop:=Ste 0 Ti ltI d ts h
theorem zdc(al:Al Ti ts)(sr:Srt ltI ts)(hl:ts.length<=2000):∃d h n',qw [.obj 2,.lst ts] (Z ks n)=some (d,Z ks n')/\St d ts h:=by obtain⟨d,h,n',c,m⟩:=zn9 (ks:=ks) (n:=n) (fun x hx=>zqm (al x hx)) hl;exact⟨d,h,n',c,m,al,sr⟩
theorem zpv(s1:St d1 as h1)(s2:St d2 bs h2)(l1:as.length<=2000)(l2:bs.length<=2000):∃d h n',zbs [.obj 2,d1,d2,LS] (Z ks n)=some (d,Z ks n')/\St d (as.filter (hs ltI bs)) h:=by obtain⟨d,h,n',c,s⟩:=zdc (ks:=ks) (n:=n) (zw4 (p:=hs ltI bs) s1.al) (zx5 s1.sr) (z6h (z7x ..) l1);exact⟨d,h,n',j8 rfl (zt (zi (a_c (e_v rfl) (a_c (zhg (zi (a_c (e_v rfl) a_n) (ju s1.mm l1 zf7)) fun x hx=>jf (zi (a_c (e_v rfl) (a_c (e_v rfl) (a_c (e_v rfl) a_n))) (ztq bfI zkz (s1.al x hx) s2 l2))) a_n)) c)),s⟩
theorem zv3(s1:St d1 as h1)(s2:St d2 bs h2)(l1:as.length<=2000)(l2:bs.length<=2000):∃d h n',zg4 [.obj 2,d1,d2,LS] (Z ks n)=some (d,Z ks n')/\St d (as.filter fun x=>!hs ltI bs x) h:=by obtain⟨d,h,n',c,s⟩:=zdc (ks:=ks) (n:=n) (zw4 (p:=fun x=>!hs ltI bs x) s1.al) (zx5 s1.sr) (z6h (z7x ..) l1);exact⟨d,h,n',j8 rfl (zt (zi (a_c (e_v rfl) (a_c (zhg (zi (a_c (e_v rfl) a_n) (ju s1.mm l1 zf7)) fun x hx=>z3x (jf (zi (a_c (e_v rfl) (a_c (e_v rfl) (a_c (e_v rfl) a_n))) (ztq bfI zkz (s1.al x hx) s2 l2)))) a_n)) c)),s⟩
theorem zpi(s1:St d1 as h1)(s2:St d2 bs h2)(l1:as.length<=2000)(l2:bs.length<=2000):(aC (eV 0) (aC (zk zbr (aC (zk z8 (aC (eV 1) aN)) (aC (zk z8 (aC (eV 2) aN)) (aC (eV 3) aN)))) aN)) [some (.obj 2),some d1,some d2,some LS] (Z ks n)=some ([.obj 2,.lst (mrg ltI as bs)],Z ks n) :=
 a_c (e_v rfl) (a_c (zi (a_c (zi (a_c (e_v rfl) a_n) (ju s1.mm l1 zf7)) (a_c (zi (a_c (e_v rfl) a_n) (ju s2.mm l2 zf7)) (a_c (e_v rfl) a_n))) (zob bfI zkz zf7 s1.al s2.al l1 l2 (zn8 bfI.sw s1.al s2.al s1.sr s2.sr) fun _ h=>zqm h)) a_n)
theorem zhb(s1:St d1 as h1)(s2:St d2 bs h2)(l1:as.length<=2000)(l2:bs.length<=2000)(l:(mrg ltI as bs).length<=2000):∃d h n',yn [.obj 2,d1,d2,LS] (Z ks n)=some (d,Z ks n')/\St d (mrg ltI as bs) h:=by obtain⟨d,h,n',c,s⟩:=zdc (ks:=ks) (n:=n) (zn8 bfI.sw s1.al s2.al s1.sr s2.sr) (zeo bfI.sw s1.al s2.al s1.sr s2.sr).1 l;exact⟨d,h,n',j8 rfl (zt (zi (zpi s1 s2 l1 l2) c)),s⟩
theorem zph(s1:St d1 as h1)(s2:St d2 bs h2)(l1:as.length<=2000)(l2:bs.length<=2000)(l:2000<(mrg ltI as bs).length)(l3:(mrg ltI as bs).length<10000):yn [.obj 2,d1,d2,LS] (Z ks n)=none/\zah [.obj 2,d1,d2,LS] (Z ks n)=some (TM,Z ks n):=by obtain⟨c1,c2⟩:=zvz (S:=Z ks n) l l3;have av:=zpi (ks:=ks) (n:=n) s1 s2 l1 l2;refine⟨zex (zfa (xr av c1)),?_⟩;unfold zah;rw[zem (n:=4) rfl];unfold zgo;show zcf _ _ [some (.obj 2),some d1,some d2,some LS] (Z ks n)=_;rw[zb7 av];exact c2
theorem zs9{p:Nat}(m:Mk 0 d ts h)(hl:ts.length=2000)(hp:p<=ts.length):zlp [.obj 2,d,.int p,x] S=none/\zgp [.obj 2,d,.int p,x] S=some (TM,S):=by have a1:zk jl (aC (eV 2) (aC (e2 qa (zk jz (aC (eV 1) aN)) (eK (.int 1))) aN)) [some (.obj 2),some d,some (.int p),some x] S=some (.non,S):=zi (a_c (e_v rfl) (a_c (e_2 (zi (a_c (e_v rfl) a_n) (jo m S)) e_k (zue _)) a_n)) (zcq (by omega) S);have a2:(aC (e2 qa (zk jz (aC (eV 1) aN)) (eK (.int 1))) aN) [some (.obj 2),some d,some (.int p),some x] S=some ([.int (ts.length+1:Nat)],S):=a_c (e_2 (zi (a_c (e_v rfl) a_n) (jo m S)) e_k (zue _)) a_n;refine⟨zex (x8 (x6 a1) (zjl (zhd (xr a2 (zgl (by omega) S))))),?_⟩;unfold zgp;rw[zem (n:=4) rfl];unfold zs8;show zld _ _ [some (.obj 2),some d,some (.int p),some x] S=_;rw[zid (x6 a1),zb7 a2];exact zjm (by omega) (by omega) S
theorem ztb{p:Nat}(m:Mk 0 d ts h)(hl:ts.length<2000)(hp:p<=ts.length)(ht:Thing 0 x):∃d' h' n',zlp [.obj 2,d,.int p,x] (Z ks n)=some (d',Z ks n')/\Mk 0 d' (ts.take p++x::ts.drop p) h':=by obtain⟨d',h',new,T1,c,rr,few⟩:=zym (k:=0) (i:=2) (S:=Z ks n) (n:=n) (p:=p) (x:=x) rfl m hl hp ht (z1f m);have eT:=z16 rr.wt;subst eT;exact⟨d',h',_,c,rr.mm⟩
theorem zsu(tx:Ti x)(s:St d ts h)(hl:ts.length<=2000)(g:hs ltI ts x=true):zdw [.obj 2,d,x,LS] (Z ks n)=some (d,Z ks n):=by have c1:=ya bfI (zkz (ks:=ks) (n:=n)) tx s hl;have c2:=zar bfI (zkz (ks:=ks) (n:=n)) tx s hl;rw[g]at c2;exact j8 rfl (zm (zn (zi (a_c (e_v rfl) (a_c (e_v rfl) (a_c (e_v rfl) a_n))) c1)) (jb (qh (jf (zi (a_c (e_v rfl) (a_c (e_v rfl) (a_c (e_v rfl) (a_c (e_v rfl) a_n)))) c2)) (zt (e_v rfl)))))
theorem zta{p:Nat}(hp:p<=ts.length):(ts.take p++x::ts.drop p).length=ts.length+1:=by rw[z5n,List.length_cons,z6m,z6l];omega
theorem zqa(tx:Ti x)(s:St d ts h)(hl:ts.length<2000)(g:hs ltI ts x=false):∃d' h' n' ts',zdw [.obj 2,d,x,LS] (Z ks n)=some (d',Z ks n')/\Mk 0 d' ts' h'/\ts'.length=ts.length+1:=by have c1:=ya bfI (zkz (ks:=ks) (n:=n)) tx s (by omega);have c2:=zar bfI (zkz (ks:=ks) (n:=n)) tx s (by omega);rw[g]at c2;obtain⟨d',h',n',c,m⟩:=ztb (ks:=ks) (n:=n) s.mm hl (zlx ts x) (zqm tx);exact⟨d',h',n',_,j8 rfl (zm (zn (zi (a_c (e_v rfl) (a_c (e_v rfl) (a_c (e_v rfl) a_n))) c1)) (zm (zu (jf (zi (a_c (e_v rfl) (a_c (e_v rfl) (a_c (e_v rfl) (a_c (e_v rfl) a_n)))) c2))) (zt (zi (a_c (e_v rfl) (a_c (e_v rfl) (a_c (e_v rfl) (a_c (e_v rfl) a_n)))) c)))),m,zta (zlx ts x)⟩
theorem zst(tx:Ti x)(s:St d ts h)(hl:ts.length=2000)(g:hs ltI ts x=false):zdw [.obj 2,d,x,LS] (Z ks n)=none/\zb1 [.obj 2,d,x,LS] (Z ks n)=some (TM,Z ks n):=by have c1:=ya bfI (zkz (ks:=ks) (n:=n)) tx s (by omega);have c2:=zar bfI (zkz (ks:=ks) (n:=n)) tx s (by omega);rw[g]at c2;obtain⟨p1,p2⟩:=zs9 (S:=Z ks n) (x:=x) s.mm hl (zlx ts x);have s1:qm 4 (zk jn (aC (eV 1) (aC (eV 2) (aC (eV 3) aN)))) [some (.obj 2),some d,some x,some LS,none] (Z ks n)=some (.nx [some (.obj 2),some d,some x,some LS,some (.int (cb ltI ts x:Nat))],Z ks n):=zn (zi (a_c (e_v rfl) (a_c (e_v rfl) (a_c (e_v rfl) a_n))) c1);have s2:sIf (bE (zk ql (aC (eV 1) (aC (eV 4) (aC (eV 2) (aC (eV 3) aN)))))) (qi (eV 1)) jy [some (.obj 2),some d,some x,some LS,some (.int (cb ltI ts x:Nat))] (Z ks n)=some (.nx [some (.obj 2),some d,some x,some LS,some (.int (cb ltI ts x:Nat))],Z ks n):=zu (jf (zi (a_c (e_v rfl) (a_c (e_v rfl) (a_c (e_v rfl) (a_c (e_v rfl) a_n)))) c2));refine⟨zex (x8 s1 (x8 s2 (zfa (xr (a_c (e_v rfl) (a_c (e_v rfl) (a_c (e_v rfl) (a_c (e_v rfl) a_n)))) p1)))),?_⟩;unfold zb1;rw[zem (n:=4) rfl];unfold zjr;show zld _ _ [some (.obj 2),some d,some x,some LS,none] (Z ks n)=_;rw[zid s1,zid s2,zb7 (a_c (e_v rfl) (a_c (e_v rfl) (a_c (e_v rfl) (a_c (e_v rfl) a_n))))];exact p2
theorem zt7:km [LS] (Z ks n)=some (bk,Z ks n):=by unfold km zwd;rw[z55 (show[LS].length=1 from rfl)];exact z55 ⟨rfl,rfl⟩
theorem zmv:zct [x] S=some (.tup [x,.non],S):=j8 rfl (zt (zbx (a_c (e_v rfl) (a_c e_k a_n)) (z6q rfl)))
abbrev Ta(d:D)(ts:List D)(h:Nat):Prop:=Ste 0 TP ltP d ts h
theorem zh1(a v:Int):TP (.tup [.int a,.int v]):=⟨a,_,rfl,rfl⟩
theorem zqk(a:Int):TP (.tup [.int a,.non]):=⟨a,_,rfl,rfl⟩
def wE(d:D)(a v:Int)(p:Nat):Ev:=[some (.obj 2),some d,some (.int a),some (.int v),some LS,some (.tup [.int a,.int v]),some bk,some (.int (p:Nat))]
theorem wv1(a v:Int):qm 5 (za8 (aC (eV 2) (aC (eV 3) aN))) [some (.obj 2),some d,some (.int a),some (.int v),some LS,none,none,none] (Z ks n)=some (.nx [some (.obj 2),some d,some (.int a),some (.int v),some LS,some (.tup [.int a,.int v]),none,none],Z ks n):=zn (zbx (a_c (e_v rfl) (a_c (e_v rfl) a_n)) (z6q rfl))
theorem wv2(a v:Int):qm 6 (zk km (aC (eV 4) aN)) [some (.obj 2),some d,some (.int a),some (.int v),some LS,some (.tup [.int a,.int v]),none,none] (Z ks n)=some (.nx [some (.obj 2),some d,some (.int a),some (.int v),some LS,some (.tup [.int a,.int v]),some bk,none],Z ks n):=zn (zi (a_c (e_v rfl) a_n) zt7)
theorem wv3(a v:Int)(s:Ta d ts h)(hl:ts.length<=2000):qm 7 (zk jn (aC (eV 1) (aC (eV 5) (aC (eV 6) aN)))) [some (.obj 2),some d,some (.int a),some (.int v),some LS,some (.tup [.int a,.int v]),some bk,none] (Z ks n)=some (.nx (wE d a v (cb ltP ts (.tup [.int a,.int v]))),Z ks n):=zn (zi (a_c (e_v rfl) (a_c (e_v rfl) (a_c (e_v rfl) a_n))) (ya bfP zkz (zh1 a v) s hl))
theorem wv4(a v:Int)(s:Ta d ts h)(hl:ts.length<=2000):bE (zk ql (aC (eV 1) (aC (eV 7) (aC (eV 5) (aC (eV 6) aN))))) (wE d a v (cb ltP ts (.tup [.int a,.int v]))) (Z ks n)=some (hs ltP ts (.tup [.int a,.int v]),Z ks n):=jf (zi (a_c (e_v rfl) (a_c (e_v rfl) (a_c (e_v rfl) (a_c (e_v rfl) a_n)))) (zar bfP zkz (zh1 a v) s hl))
theorem zvi(a v:Int):Thing 0 (.tup [.int a,.int v]):=⟨rfl,.inr ⟨a,v,rfl⟩⟩
theorem zqh(a v:Int)(s:Ta d ts h)(hl:ts.length<2000)(g:hs ltP ts (.tup [.int a,.int v])=false):∃d' h' n' ts',jh [.obj 2,d,.int a,.int v,LS] (Z ks n)=some (d',Z ks n')/\Mk 0 d' ts' h'/\ts'.length=ts.length+1:=by have w4:=wv4 (ks:=ks) (n:=n) a v s (by omega);rw[g]at w4;obtain⟨d',h',n',c,m⟩:=ztb (ks:=ks) (n:=n) s.mm hl (zlx ts (.tup [.int a,.int v])) (zvi a v);exact⟨d',h',n',_,j8 rfl (zm (wv1 a v) (zm (wv2 a v) (zm (wv3 a v s (by omega)) (zm (zu w4) (zt (zi (a_c (e_v rfl) (a_c (e_v rfl) (a_c (e_v rfl) (a_c (e_v rfl) a_n)))) c)))))),m,zta (zlx ts _)⟩
theorem zuj(a v:Int)(s:Ta d ts h)(hl:ts.length=2000)(g:hs ltP ts (.tup [.int a,.int v])=false):jh [.obj 2,d,.int a,.int v,LS] (Z ks n)=none/\xa [.obj 2,d,.int a,.int v,LS] (Z ks n)=some (TM,Z ks n):=by have w4:=wv4 (ks:=ks) (n:=n) a v s (by omega);rw[g]at w4;have w3:=wv3 (ks:=ks) (n:=n) a v s (by omega);obtain⟨p1,p2⟩:=zs9 (S:=Z ks n) (x:=.tup [.int a,.int v]) s.mm hl (zlx ts (.tup [.int a,.int v]));have av:(aC (eV 0) (aC (eV 1) (aC (eV 7) (aC (eV 5) aN)))) (wE d a v (cb ltP ts (.tup [.int a,.int v]))) (Z ks n)=some ([.obj 2,d,.int (cb ltP ts (.tup [.int a,.int v]):Nat),.tup [.int a,.int v]],Z ks n):=a_c (e_v rfl) (a_c (e_v rfl) (a_c (e_v rfl) (a_c (e_v rfl) a_n)));refine⟨zex (x8 (wv1 a v) (x8 (wv2 a v) (x8 w3 (x8 (zu w4) (zfa (xr av p1)))))),?_⟩;unfold xa;rw[zem (n:=5) rfl];unfold zbi;show zld _ _ [some (.obj 2),some d,some (.int a),some (.int v),some LS,none,none,none] (Z ks n)=_;rw[zid (wv1 a v),zid (wv2 a v),zid w3,zid (zu w4),zb7 av];exact p2
theorem zqg(a v:Int)(s:Ta d ts h)(hl:ts.length<=2000)(g:hs ltP ts (.tup [.int a,.int v])=true):∃d' h' n',jh [.obj 2,d,.int a,.int v,LS] (Z ks n)=some (d',Z ks n')/\Mk 0 d' (ts.set (cb ltP ts (.tup [.int a,.int v])) (.tup [.int a,.int v])) h':=by have w4:=wv4 (ks:=ks) (n:=n) a v s hl;rw[g]at w4;obtain⟨y,hy,_⟩:=(zrq bfP.sw (zh1 a v) s.al s.sr).mp g;have hp:=(z5s.mp hy).1;obtain⟨d',new,T1,c,rr,few⟩:=zk4 (k:=0) (i:=2) (S:=Z ks n) (n:=n) (p:=cb ltP ts (.tup [.int a,.int v])) (x:=.tup [.int a,.int v]) rfl s.mm hl hp (zvi a v) (z1f s.mm);have eT:=z16 rr.wt;subst eT;exact⟨d',h,_,j8 rfl (zm (wv1 a v) (zm (wv2 a v) (zm (wv3 a v s hl) (jb (qh w4 (zt (zi (a_c (e_v rfl) (a_c (e_v rfl) (a_c (e_v rfl) (a_c (e_v rfl) a_n)))) c))))))),rr.mm⟩
theorem zhz(a:Int){v:D}(s:Ta d ts h)(hl:ts.length<=2000)(hm:.tup [.int a,v]∈ts):yd [d,.int a,LS] (Z ks n)=some (v,Z ks n):=by
 have g:hs ltP ts (.tup [.int a,.non])=true:=hs_iff.mpr ⟨_,hm,alk_P.mpr rfl⟩;have c0:=ya bfP (zkz (ks:=ks) (n:=n)) (zqk a) s hl;have c1:=zar bfP (zkz (ks:=ks) (n:=n)) (zqk a) s hl;rw[g]at c1;have cp:xu [d,.tup [.int a,.non],bk] (Z ks n)=some (.int (cb ltP ts (.tup [.int a,.non]):Nat),Z ks n):=j8 rfl (zm (zn (zi (a_c (e_v rfl) (a_c (e_v rfl) (a_c (e_v rfl) a_n))) c0)) (zm (zu (z14 (jf (zi (a_c (e_v rfl) (a_c (e_v rfl) (a_c (e_v rfl) (a_c (e_v rfl) a_n)))) c1)))) (zt (e_v rfl))));obtain⟨z,hz,r⟩:=(zrq bfP.sw (zqk a) s.al s.sr).mp g;have hd:z∈ts.drop (cb ltP ts (.tup [.int a,.non])):=z6j (i:=0) (by rw[z82,Nat.add_zero];exact hz);have ak:alk ltP z (.tup [.int a,.non]):=⟨(zc1 bfP.sw (zqk a) s.al s.sr).2 z hd,r⟩
 have ck:iv (fs z)=a:=alk_P.mp ak;have ez:z=.tup [.int a,v]:=by
   obtain⟨p,hp,rfl⟩:=z6g (z6j hz);obtain⟨q,hq,e⟩:=z6g hm;have pw:=z7e.mp s.sr;have kq:iv (fs ts[q])=a:=by rw[e];rfl
   rcases Nat.lt_trichotomy p q with u | u | u
   · have:=z63 (pw p q hp hq u);omega
   · subst u;exact e
   · have:=z63 (pw q p hq hp u);omega
 rw[ez]at hz;have av:(aC (eV 0) (aC (zk zct (aC (eV 1) aN)) (aC (zk km (aC (eV 2) aN)) aN))) [some d,some (.int a),some LS] (Z ks n)=some ([d,.tup [.int a,.non],bk],Z ks n):=a_c (e_v rfl) (a_c (zi (a_c (e_v rfl) a_n) zmv) (a_c (zi (a_c (e_v rfl) a_n) zt7) a_n));exact j8 rfl (zt (qy (zi (a_c (e_v rfl) (a_c (zi av cp) a_n)) (z1d s.mm hl hz _)) e_k rfl))
end Pg
namespace Pg
open PySem L2 F Mt
variable {d d0 d1 d2 l r t x y:D}{ts us as bs acc rt sm:List D}{h i j g rh h1 h2 M:Nat}{n st:Int}{S S0 S1:Sto}{ev:Ev}{T:D->Prop}{lt:D->D->Bool}{ks:List Int}
def zss(ks:List Int)(k:Int):List Int:=if k∈ks then ks else ks++[k]
theorem ztr(k:Int):zl8 (kv ks) k=decide (k∈ks):=by
 unfold zl8 kv;rw[List.any_map]
 induction ks with
 |nil=>rfl
 | cons a ks ih=>
   rw[List.any_cons,ih];show(decide (a=k)||decide (k∈ks))=_;rw[<-Bool.decide_or,z7c,z5y,eq_comm (a:=a)]
theorem zyn(k:Int):zvc (kv ks) k (.bl true)=kv (zss ks k):=by
 unfold zvc zss;rw[ztr];by_cases h:k∈ks
 · rw[z55 (z6b h),z55 h];unfold kv;rw[z8g];refine List.map_congr_left fun a _=>?_;show(if a=k then (a,D.bl true)else (a,D.bl true))=_;rw[ite_self]
 · rw[z6c (by rw[z54 h];simp),z6c h];unfold kv;rw[z9v];rfl
theorem zw5(h:ks.Nodup)(k:Int):(zss ks k).Nodup:=by
 unfold zss;split
 · exact h
 · rename_i q;exact z89.mpr ⟨h,z7v.mpr ⟨by simp,List.nodup_nil⟩,fun a ha b hb e=>q (by rw[z6a.mp hb]at e;exact e▸ha)⟩
theorem zsr(k:Int):(zss ks k).length<=ks.length+1:=by
 unfold zss;split
 · omega
 · rw[z5n];exact z5p _
theorem zmu{k:Int}{q:Nat}{f:E}(hq:ev[q]? = some (some (.obj 1)))(hi:f ev [tK,.dct (kv ks)]=some (.int k,[tK,.dct (kv ks)]))(hl:ks.length<100):zbg (eV q) f (eK (.bl true)) ev [tK,.dct (kv ks)]=some (.nx ev,[tK,.dct (kv (zss ks k))]):=by
 have hz:sizeLine=16777216:=z7b;have hk:(kv ks).length<sizeLine:=by unfold kv;rw[z6s];omega
 have e0:eK (.bl true) ev [tK,.dct (kv ks)]=some (.bl true,[tK,.dct (kv ks)]):=rfl;simp only[zbg,e0,Option.bind_some,e_v hq,hi];show(if(kv ks).length<sizeLine then some (Out.nx ev,[tK,MO.dct (kv ks)].set 1 (.dct (zvc (kv ks) k (.bl true))))else none)=_;rw[z55 hk,zyn];rfl
def oB:C:=(qb (qm 5 (zk z5 (aC (eV 0) (aC (e2 qa (eK (.int 20)) (eV 4)) aN)))) (sIf (zhv (bE (e2 zb8 (e2 q9 (eV 5) (eK (.int 4))) (eK (.int 2)))) (bE (e2 zd6 (eV 1) (eK (.int 0))))) (zbg (eV 3) (e2 j6 (eV 2) (e2 q9 (e2 yb (eV 5) (eK (.int 4))) (eV 1))) (eK (.bl true))) (qb (qm 6 (e2 j6 (eV 2) (e2 q9 (e2 yb (eV 5) (eK (.int 4))) (e2 qa (eV 1) (eK (.int 9)))))) (zbg (eV 3) (e2 y7 (eV 6) (e2 j6 (e2 q9 (e2 yb (eV 5) (eK (.int 8))) (eK (.int 2))) (e2 qa (e2 j6 (eV 2) (eK (.int 20))) (eK (.int 1))))) (eK (.bl true))))))
def oE(ns:List Int)(M:Nat)(st:Int)(a b c:Option D):Ev:=[some (.lst (ns.map D.int)),some (.int M),some (.int st),some (.obj 1),a,b,c]
theorem zc5{c:B}{a b:C}{o:Out}{S2:Sto}(h:c ev S=some (false,S1))(q:b ev S1=some (o,S2)):sIf c a b ev S=some (o,S2):=by simp[sIf,h,q]
theorem ztk(ns:List Int)(hn:ns.length<=63)(s0:1<=st)(s1:st<=5):∀(js:List D),(∀x∈js,∃i:Int,x=.int i/\0<=i/\i<10000)->∀(ks:List Int) (a b c:Option D),ks.Nodup->ks.length+js.length<=10 ->
   ∃ks' a' b' c',ks'.Nodup/\ks'.length<=ks.length+js.length/\za4 4 oB js (oE ns M st a b c) [tK,.dct (kv ks)]=some (.nx (oE ns M st a' b' c'),[tK,.dct (kv ks')])
 | [],_,ks,a,b,c,nd,_=>⟨ks,a,b,c,nd,by simp,rfl⟩
 | jj::js,hj,ks,a,b,c,nd,hl=>by
   obtain⟨i,rfl,i0,i1⟩:=hj jj (z5z ..);rw[List.length_cons]at hl;obtain⟨v,v0,v1,hv⟩:=yr ns hn (q:=20+i) (by omega) (by omega);have step1:∀S,qm 5 (zk z5 (aC (eV 0) (aC (e2 qa (eK (.int 20)) (eV 4)) aN))) (oE ns M st (some (.int i)) b c) S=some (.nx (oE ns M st (some (.int i)) (some (.int v)) c),S):=fun S=>zn (zi (a_c (e_v rfl) (a_c (e_2 e_k (e_v rfl) (add_int _ _)) a_n)) (hv _));have t1:∀S,bE (e2 zb8 (e2 q9 (eV 5) (eK (.int 4))) (eK (.int 2))) (oE ns M st (some (.int i)) (some (.int v)) c) S=some (decide (v%4<2),S):=fun S=>jf (e_2 (e_2 (e_v rfl) e_k (zbk (by decide))) e_k (zv1 _ _));have t2:∀S,bE (e2 zd6 (eV 1) (eK (.int 0))) (oE ns M st (some (.int i)) (some (.int v)) c) S=some (decide ((0:Int)<M),S):=fun S=>jf (e_2 (e_v rfl) e_k rfl);have ml:∀z:Int,j6 (.int st) (.int z)=some (.int (st*z)):=fun z=>zgv ⟨by omega,by omega⟩;have hl2:ks.length<100:=by omega
   have go:∀(k:Int) (c':Option D),sIf (zhv (bE (e2 zb8 (e2 q9 (eV 5) (eK (.int 4))) (eK (.int 2)))) (bE (e2 zd6 (eV 1) (eK (.int 0))))) (zbg (eV 3) (e2 j6 (eV 2) (e2 q9 (e2 yb (eV 5) (eK (.int 4))) (eV 1))) (eK (.bl true))) (qb (qm 6 (e2 j6 (eV 2) (e2 q9 (e2 yb (eV 5) (eK (.int 4))) (e2 qa (eV 1) (eK (.int 9)))))) (zbg (eV 3) (e2 y7 (eV 6) (e2 j6 (e2 q9 (e2 yb (eV 5) (eK (.int 8))) (eK (.int 2))) (e2 qa (e2 j6 (eV 2) (eK (.int 20))) (eK (.int 1))))) (eK (.bl true)))) (oE ns M st (some (.int i)) (some (.int v)) c) [tK,.dct (kv ks)]=some (.nx (oE ns M st (some (.int i)) (some (.int v)) c'),[tK,.dct (kv (zss ks k))]) ->
       ∃ks' a' b' c',ks'.Nodup/\ks'.length<=ks.length+(D.int i::js).length/\za4 4 oB (.int i::js) (oE ns M st a b c) [tK,.dct (kv ks)]=some (.nx (oE ns M st a' b' c'),[tK,.dct (kv ks')]):=fun k c' hk=>by
     have al:=zsr (ks:=ks) k;obtain ⟨ks',a',b',c'',nd',l',ih⟩:=ztk ns hn s0 s1 js (fun x hx=>hj x (z5u _ hx)) (zss ks k) (some (.int i)) (some (.int v)) c' (zw5 nd k) (by omega);exact ⟨ks',a',b',c'',nd',by rw [List.length_cons];omega,zod (zm (step1 _) hk) ih⟩
   by_cases q:v%4<2/\(0:Int)<M
   · refine go (st*(v/4%M)) c (qh (zey ((t1 _).trans (by rw[z6b q.1])) ((t2 _).trans (by rw[z6b q.2]))) (zmu rfl ?_ hl2));exact e_2 (e_v rfl) (e_2 (e_2 (e_v rfl) e_k (zhe (by decide))) (e_v rfl) (zbk q.2)) (ml _)
   · have tf:zhv (bE (e2 zb8 (e2 q9 (eV 5) (eK (.int 4))) (eK (.int 2)))) (bE (e2 zd6 (eV 1) (eK (.int 0)))) (oE ns M st (some (.int i)) (some (.int v)) c) [tK,.dct (kv ks)]=some (false,[tK,.dct (kv ks)]):=by
       by_cases u:v%4<2
       · exact zey ((t1 _).trans (by rw[z6b u])) ((t2 _).trans (by rw[z54 fun z=>q ⟨u,z⟩]))
       · exact zkv ((t1 _).trans (by rw[z54 u]))
     refine go (st*(v/4%(M+9))-v/8%2*(st*20+1)) (some (.int (st*(v/4%(M+9))))) (zc5 tf (zm (zn (e_2 (e_v rfl) (e_2 (e_2 (e_v rfl) e_k (zhe (by decide))) (e_2 (e_v rfl) e_k (add_int _ _)) (zbk (by omega))) (ml _))) (zmu rfl ?_ hl2)));exact e_2 (e_v rfl) (e_2 (e_2 (e_2 (e_v rfl) e_k (zhe (by decide))) e_k (zbk (by decide))) (e_2 (e_2 (e_v rfl) e_k (zgu (by decide))) e_k (add_int _ _)) (zgv ⟨by have:=z87 (v/8) (show(2:Int)≠0 by decide);omega,by have:=z8h (v/8) (show(0:Int)<2 by decide);omega⟩)) (sub_int _ _)
theorem znw(ns:List Int)(hn:ns.length<=63)(s0:1<=st)(s1:st<=5):∃ks,ks.Nodup/\ks.length<=4/\x4 [.lst (ns.map D.int),.int (M:Int),.int st] [tK]=some (.obj 1,[tK,.dct (kv ks)]):=by obtain⟨c2,_,_,hc2⟩:=yr ns hn (q:=2) (by decide) (by decide);obtain⟨m,hm,em⟩:=zdd c2 (c:=4) (by decide);obtain⟨ks,a,b,c,nd,l,lp⟩:=ztk (M:=M) ns hn s0 s1 (jc 0 (1+m)) (rng (by omega)) [] none none none List.nodup_nil (by rw[zia];simp;omega);rw[zia]at l;refine⟨ks,nd,by simp at l;omega,j8 rfl (zm (zn (d:=.obj 1) (S1:=[tK,.dct (kv [])]) rfl) (zm (zus (n:=((1+m:Nat):Int)) (b:=oB) (S1:=[tK,.dct (kv [])]) (e_2 e_k (e_2 (zi (a_c (e_v rfl) (a_c e_k a_n)) (hc2 _)) e_k em) (add_int _ _)) (by omega) (by omega) (by rw[Int.toNat_natCast];exact lp)) (zt (e_v rfl))))⟩
def mul(st:Int)(x:D):D:=.int (st*iv x)
def thg(st:Int)(M:Nat):List D:=(jc 0 M).map (mul st)
theorem za2:(thg st M).length=M:=by unfold thg;rw[z6s,zia]
theorem j9:Al Ti (thg st M):=fun x hx=>by obtain⟨y,_,rfl⟩:=z7q.mp hx;exact⟨_,rfl⟩
theorem zmq{a:Int}(s0:1<=st):.int a∈thg st M↔a%st=0/\0<=a/st/\a/st<M:=by
 unfold thg jc;rw[z8g,z7q];constructor
 · rintro⟨k,hk,e⟩;have e:st*(0+(k:Int))=a:=D.int.inj e;rw[Int.zero_add]at e;have hk:=qaw.mp hk;rw[<-e,Int.mul_emod_right,Int.mul_ediv_cancel_left _ (by omega)];omega
 · rintro⟨h1,h2,h3⟩;refine⟨(a/st).toNat,qaw.mpr (by omega),?_⟩;show D.int (st*(0+((a/st).toNat:Int)))=_;rw[Int.zero_add,Int.toNat_of_nonneg h2,Int.mul_ediv_cancel' (Int.dvd_of_emod_eq_zero h1)]
theorem zav(s0:1<=st):Srt ltI (thg st M):=by unfold Srt thg jc;rw[z8g,z7u];refine List.pairwise_lt_range.imp fun {a b} q=>z6b ?_;show st*(0+(a:Int))<st*(0+(b:Int));exact Int.mul_lt_mul_of_pos_left (by omega) (by omega)
theorem zs1(s0:1<=st){x:D}(hx:x∈thg st M):0<=iv x:=by obtain⟨a,rfl⟩:=j9 x hx;obtain⟨h1,h2,_⟩:=(zmq s0).mp hx;have:=Int.mul_ediv_cancel' (Int.dvd_of_emod_eq_zero h1);have:0<=st*(a/st):=Int.mul_nonneg (by omega) h2;show 0<=a;omega
def smk(ks:List Int):List D:=jp zes (ks.map D.int)
theorem ziu:Al Ti (ks.map D.int):=fun x hx=>by obtain⟨a,_,rfl⟩:=z7q.mp hx;exact⟨a,rfl⟩
theorem kh:Al Ti (smk ks):=zbn ziu
theorem zoo(h:ks.Nodup):(ks.map D.int).Pairwise fun x y=>iv x≠iv y:=by rw[z7u];exact h
theorem zbf(h:ks.Nodup):Srt ltI (smk ks):=zg2 ziu (zoo h)
theorem zm0:(smk ks).length=ks.length:=by unfold smk;rw[(ji _).length_eq,z6s]
theorem zu0{a:Int}:.int a∈smk ks↔a∈ks:=by unfold smk;rw[(ji _).mem_iff,z7q];exact⟨fun⟨b,hb,e⟩=>D.int.inj e▸hb,fun h=>⟨a,h,rfl⟩⟩
theorem zu1(tx:Ti x):hs ltI (smk ks) x=zl8 (kv ks) (iv x):=by obtain⟨a,rfl⟩:=tx;rw[ztr,z9w,zrr kh ⟨a,rfl⟩,zu0,qav];rfl
def fr(st:Int)(M:Nat)(ks:List Int):List D:=(smk ks).filter fun x=>!hs ltI (thg st M) x
theorem z49(s0:1<=st)(s1:st<=5)(hM:M<=2000)(tx:Ti x):(bOr (bE (e2 zbz (e2 q9 (eV 0) (eV 2)) (eK (.int 0)))) (bE (e2 zai (e2 yb (eV 0) (eV 2)) (eV 1)))) [some x,some (.int (M:Int)),some (.int st)] S=some (!hs ltI (thg st M) x,S):=by
 obtain⟨a,rfl⟩:=tx;have e:hs ltI (thg st M) (.int a)=decide (a%st=0/\0<=a/st/\a/st<M):=by rw[z9w,zrr j9 ⟨a,rfl⟩,zmq s0,qav]
 have t1:bE (e2 zbz (e2 q9 (eV 0) (eV 2)) (eK (.int 0))) [some (.int a),some (.int (M:Int)),some (.int st)] S=some (!(a%st==0),S):=jf (e_2 (e_2 (e_v rfl) (e_v rfl) (zbk (by omega))) e_k (zn6 _ _));rw[e];by_cases q:a%st=0
 · refine(zw0 (t1.trans (by rw[q];rfl)) (jf (e_2 (e_2 (e_v rfl) (e_v rfl) (zhe ⟨by omega,by omega⟩)) (e_v rfl) rfl))).trans ?_;congr 3;rw[z7c];exact⟨fun z=>⟨q,z⟩,fun z=>z.2⟩
 · refine(z1c (t1.trans (by rw[show(a%st==0)=false from beq_false_of_ne q];rfl))).trans ?_;rw[z54 fun z=>q z.1];rfl
theorem zoz:Al Ti (fr st M ks):=zw4 kh
theorem fr_mem:x∈fr st M ks↔x∈smk ks/\x∉thg st M:=by unfold fr;rw[z67];refine and_congr_right fun h=>?_;rw[z9a,z64,ne_eq,zrr j9 (kh x h)]
theorem z3i(h:ks.Nodup):Srt ltI (fr st M ks):=zx5 (zbf h)
theorem zg6:∀{us:List D},Al Ti us->zlq us=some (us.map fun x=>V.int (iv x))
 | [],_=>rfl
 | x::us,al=>by obtain⟨a,rfl⟩:=al.head;show(some (V.int a)).bind (fun v=>(zlq us).map fun r=>v::r)=_;rw[zg6 al.tail];rfl
theorem zn4(al:Al Ti us)(tx:Ti x):zaj x (.lst us)=some (.bl (!hs ltI us x)):=by obtain⟨a,rfl⟩:=tx;show(match zci (.int a),zlq us with | some x,some xs=>some (D.bl (!inV x xs)) | _,_=>none)=_;rw[zg6 al];show some (D.bl (!inV (.int a) (us.map fun x=>V.int (iv x))))=_;congr 3;rw[z9w,hs_iff];unfold inV;rw[List.any_map,List.any_eq_true];refine exists_congr fun y=>and_congr_right fun _=>?_;show(iv y==a)=true↔_;rw[alk_I,z74];rfl
theorem z03(s0:1<=st)(nd:ks.Nodup):(thg st M).filter (hs ltI (smk ks))=(smk ks).filter fun x=>!hs ltI (fr st M ks) x:=by
 refine zs6 bfI.sw (zw4 j9) (zw4 kh) (zx5 (zav s0)) (zx5 (zbf nd)) fun x=>?_;rw[z67,z67];constructor
 · rintro⟨a,b⟩;have tx:=j9 x a;have hx:=(zrr kh tx).mp b;refine⟨hx,?_⟩;rw[z9a,z64,ne_eq,zrr zoz tx];exact fun z=>(fr_mem.mp z).2 a
 · rintro⟨a,b⟩;have tx:=kh x a;rw[z9a,z64,ne_eq,zrr zoz tx]at b;exact⟨Classical.byContradiction fun z=>b (fr_mem.mpr ⟨a,z⟩),(zrr kh tx).mpr a⟩
theorem zzk:(thg st M).filter (fun x=>!hs ltI (smk ks) x)=(thg st M).filter fun x=>!zl8 (kv ks) (iv x) :=
 List.filter_congr fun x hx=>by rw[zu1 (j9 x hx)]
theorem zuc(s0:1<=st)(nd:ks.Nodup):(thg st M++fr st M ks).Pairwise fun x y=>iv x≠iv y:=by refine z5r.mpr ⟨(zav s0).imp fun {x y} q=>by have:=z63 q;omega,(z3i nd).imp fun {x y} q=>by have:=z63 q;omega,fun x hx y hy e=>?_⟩;exact(fr_mem.mp hy).2 (ztn (j9 x hx) (zoz y hy) e▸hx)
theorem zkx:Al Ti (thg st M++fr st M ks):=fun x hx=>(z6i.mp hx).elim (j9 x) (zoz x)
theorem zxn(s0:1<=st)(nd:ks.Nodup):mrg ltI (thg st M) (smk ks)=jp zes (thg st M++fr st M ks):=by obtain⟨sm,mm,_⟩:=zeo bfI.sw (j9 (st:=st) (M:=M)) (kh (ks:=ks)) (zav s0) (zbf nd);refine zs6 bfI.sw (zn8 bfI.sw j9 kh (zav s0) (zbf nd)) (zbn zkx) sm (zg2 zkx (zuc s0 nd)) fun x=>?_;rw[mm,(ji _).mem_iff,z6i];refine or_congr_right ?_;unfold fr;rw[z67,z9a]
theorem zuk(s0:1<=st)(nd:ks.Nodup):(mrg ltI (thg st M) (smk ks)).length=M+(fr st M ks).length/\(mrg ltI (smk ks) (thg st M)).length=M+(fr st M ks).length:=by have e:=(zeo bfI.sw (j9 (st:=st) (M:=M)) (kh (ks:=ks)) (zav s0) (zbf nd)).2.2;have e1:=zjk bfI.sw (j9 (st:=st) (M:=M)) (kh (ks:=ks)) (zav s0) (zbf nd);have e2:=zjk bfI.sw (kh (ks:=ks)) (j9 (st:=st) (M:=M)) (zbf nd) (zav s0);have e3:=zku bfI.sw (j9 (st:=st) (M:=M)) (kh (ks:=ks)) (zav s0) (zbf nd);rw[za2]at *;have e:(mrg ltI (thg st M) (smk ks)).length=M+(fr st M ks).length:=e;refine⟨e,by omega⟩
end Pg
namespace Pg
open PySem L2 F
noncomputable section
def z1a:C :=
 (qb (qm 1 (e2 q9 (zk z5 (aC (eV 0) (aC (eK (.int 4)) aN))) (eK (.int 21)))) (qb (sIf (bE (e2 zbc (e2 q9 (e2 yb (zk z5 (aC (eV 0) (aC (eK (.int 4)) aN))) (eK (.int 21))) (eK (.int 5))) (eK (.int 2)))) (qm 1 (e2 y7 (eK (.int 2000)) (e2s qj (zr9 (aC (eK (.int 0)) (aC (eK (.int 0)) (aC (eK (.int 0)) (aC (eK (.int 1)) (aC (eK (.int 2)) aN)))))) (e2 q9 (zk z5 (aC (eV 0) (aC (eK (.int 0)) aN))) (eK (.int 5)))))) jy) (qb (qm 2 (e2 qa (eK (.int 1)) (e2 q9 (zk z5 (aC (eV 0) (aC (eK (.int 1)) aN))) (eK (.int 5))))) (qb (qm 3 (jm [2] (zxb (eV 1)) zl9 (e2 j6 (eV 1) (eV 0)))) (qb (qm 4 (zk x4 (aC (eV 0) (aC (eV 1) (aC (eV 2) aN))))) (qb (qm 5 (zew (zkk (eV 4)))) (qb (qm 6 (zpl "Wood" (zxh 1 qu) aN)) (qb (qm 7 (zk qw (aC (eV 6) (aC (eV 3) aN)))) (qb (qm 8 (zk qw (aC (eV 6) (aC (eV 5) aN)))) (qb (qm 9 (jm [1,2] (zht (eV 5)) (bOr (bE (e2 zbz (e2 q9 (eV 0) (eV 2)) (eK (.int 0)))) (bE (e2 zai (e2 yb (eV 0) (eV 2)) (eV 1)))) (eV 0))) (qb (zgj [10,11] (zr9 (aC (za8 (aC (eV 7) (aC (eV 8) aN))) (aC (za8 (aC (eV 8) (aC (eV 7) aN))) aN))) (sIf (bE (e2 zbz (zk z9 (aC (eK (.str (Str.ofString "either"))) (aC (eV 6) (aC (eV 10) (aC (eV 11) aN))))) (zk jd (aC (e2 qa (eV 1) (eA zdj (aC (eV 9) aN))) aN)))) (qi (eK (.bl false))) jy)) (qb (sIf (bE (e2 zbz (zk z8 (aC (zk zbs (aC (eV 6) (aC (eV 7) (aC (eV 8) (aC (eK (.fn "_law_less")) aN))))) aN)) (jm [9] (zht (eV 5)) (bE (e2 zaj (eV 0) (eV 1))) (eV 0)))) (qi (eK (.bl false))) jy) (qb (sIf (bE (e2 zbz (zk z8 (aC (zk zg4 (aC (eV 6) (aC (eV 7) (aC (eV 8) (aC (eK (.fn "_law_less")) aN))))) aN)) (jm [4] (zht (eV 3)) (bE (e2s zc9 (eV 0) (eV 1))) (eV 0)))) (qi (eK (.bl false))) jy) (qb (sIf (zhv (bE (e2 zb8 (e2 qa (eV 1) (eA zdj (aC (eV 9) aN))) (eK (.int 2001)))) (bE (e2 zbz (zk z8 (aC (zk yn (aC (eV 6) (aC (eV 7) (aC (eV 8) (aC (eK (.fn "_law_less")) aN))))) aN)) (zew (e2 qa (eV 3) (eV 9)))))) (qi (eK (.bl false))) jy) (qb (sIf (bE (e2 zbz (zk z9 (aC (eK (.str (Str.ofString "added"))) (aC (eV 6) (aC (eV 7) (aC (e1 zxc (eK (.int 1))) aN))))) (zk jd (aC (e2 qa (eV 1) (eK (.int 1))) aN)))) (qi (eK (.bl false))) jy) (qb (sIf (bOr (bE (e2 zbc (eV 1) (eK (.int 0)))) (bE (e2 zbc (e2 q9 (zk z5 (aC (eV 0) (aC (eK (.int 5)) aN))) (eK (.int 2))) (eK (.int 0))))) (qi (eK (.bl true))) jy) (qb (qm 12 (e2s qj (eV 3) (e2 q9 (zk z5 (aC (eV 0) (aC (eK (.int 3)) aN))) (eV 1)))) (qb (sIf (bE (e2 zbz (zk z9 (aC (eK (.str (Str.ofString "added"))) (aC (eV 6) (aC (eV 7) (aC (eV 12) aN))))) (eV 1))) (qi (eK (.bl false))) jy) (qb (qm 13 (zk qw (aC (eV 6) (aC (jm [] (zht (eV 3)) zl9 (za8 (aC (eV 0) (aC (eK (.int 0)) aN)))) aN)))) (qb (sIf (bE (e2 zbz (zk z9 (aC (eK (.str (Str.ofString "value"))) (aC (eV 6) (aC (eV 13) (aC (e1 zxc (eK (.int 1))) aN))))) (zk jd (aC (e2 qa (eV 1) (eK (.int 1))) aN)))) (qi (eK (.bl false))) jy) (qi (e2 zbc (zk yd (aC (zk jh (aC (eV 6) (aC (eV 13) (aC (eV 12) (aC (eK (.int 7)) (aC (eK (.fn "_law_less")) aN)))))) (aC (eV 12) (aC (eK (.fn "_law_less")) aN)))) (eK (.int 7))))))))))))))))))))))))
def g_law:G:=z7 14 1 z1a
end
end Pg
namespace Pg
open PySem L2 F Mt
variable {d d0 d1 d2 l r t x y:D}{ts us as bs acc rt sm:List D}{h i j g rh h1 h2 M:Nat}{n n' st:Int}{S S0 S1:Sto}{ev:Ev}{T:D->Prop}{lt:D->D->Bool}{ks:List Int}
abbrev L3:D:=.lst [.bl true,.bl true,.bl false]
def due(m:Nat):D:=if 2000<m then L3 else .int m
theorem zoy{g:G}{ds:List D}{S' J:Sto}{m:Int}(hl:S'.length=S.length)(hS:SB S')(hg:g ds S=some (.int m,S'++J)):frz g ds S=some (.int m,S'):=by
 unfold frz;rw[hg];have e1:(S'++J).take S.length=S':=by rw[<-hl];exact qa0
 have e2:S'.all (zt8 S.length)=true:=by rw[<-hl];exact z6y.mpr hS
 simp only[Option.bind_some,e1,e2,z7l,bnd]
theorem zpm(m:Nat)(hS:SB S):jd [.int m] S=some (due m,S):=by
 unfold due;by_cases q:2000<m
 · rw[z55 q];exact zb3 (J:=[]) hS (by rw[z6e];exact j8 rfl (jb (qh (jf (e_2 (e_v rfl) e_k (zot (by omega)))) (zt (zr8 (a_c e_k (a_c e_k (a_c e_k a_n))) (z6q rfl)))))) rfl
 · rw[z6c q];exact zoy (J:=[]) rfl hS (by rw[z6e];exact j8 rfl (zm (zu (jf (e_2 (e_v rfl) e_k (zzw (by omega))))) (zt (e_v rfl))))
theorem zm6(c:Str):SB (Z ks n++[.exc c]):=fun m hm=>by
 rcases z5y.mp hm with rfl | hm
 · rfl
 rcases z5y.mp hm with rfl | hm
 · exact zv4 _ ks
 rcases z5y.mp hm with rfl | hm
 · exact zsy (k:=0) _ _
 rw[z6a.mp hm];rfl
theorem zir(hS:SB S)(hj:S[j]? = some (.exc TM)):za6 [.obj j] S=some (L3,S) :=
 zb3 (J:=[]) hS (by rw[z6e];exact j8 rfl (zm (zn (e_a (a_c (e_v rfl) (a_c (zbx (a_c e_k (a_c e_k (a_c e_k (a_c e_k (a_c e_k (a_c e_k (a_c e_k (a_c e_k (a_c e_k (a_c e_k a_n)))))))))) (z6q rfl)) a_n)) (isx hj (b:=false) (by decide +kernel)))) (zt (zr8 (a_c (e_a (a_c (e_v rfl) (a_c e_k a_n)) (isx hj (b:=true) (by decide +kernel))) (a_c (e_a (a_c (e_v rfl) (a_c e_k a_n)) (isx hj (b:=true) (by decide +kernel))) (a_c (e_v rfl) a_n))) (z6q rfl))))) rfl
theorem z0l(a b:Str):zbc (.str a) (.str b)=some (.bl (a==b)):=rfl
theorem zkb{c:B}{a b:C}(h:c ev S=some (true,S1))(q:a ev S1=none):sIf c a b ev S=none:=by simp[sIf,h,q]
theorem zfn{c:B}{a b:C}(h:c ev S=some (false,S1))(q:b ev S1=none):sIf c a b ev S=none:=by simp[sIf,h,q]
theorem zb4{g g':G}{a:As}(h:zk g a ev S=none):zk g' (aC (zk g a) aN) ev S=none:=by simp only[zk,aC]at *;simp[h]
abbrev wE':Str:=Str.ofString "either"
abbrev wA:Str:=Str.ofString "added"
abbrev wV:Str:=Str.ofString "value"
theorem w1{e:Ev}(he:e[0]? = some (some (.str wE'))):bE (e2 zbc (eV 0) (eK (.str (Str.ofString "either")))) e S=some (true,S):=jf (e_2 (e_v he) e_k ((z0l _ _).trans (by rw[z9h])))
theorem w2{e:Ev}(he:e[0]? = some (some (.str wA))):bE (e2 zbc (eV 0) (eK (.str (Str.ofString "either")))) e S=some (false,S):=jf (e_2 (e_v he) e_k ((z0l _ _).trans (by rw[show(wA==Str.ofString "either")=false by decide +kernel])))
theorem w3{e:Ev}(he:e[0]? = some (some (.str wA))):bE (e2 zbc (eV 0) (eK (.str (Str.ofString "added")))) e S=some (true,S):=jf (e_2 (e_v he) e_k ((z0l _ _).trans (by rw[z9h])))
theorem w4{e:Ev}(he:e[0]? = some (some (.str wV))):bE (e2 zbc (eV 0) (eK (.str (Str.ofString "either")))) e S=some (false,S):=jf (e_2 (e_v he) e_k ((z0l _ _).trans (by rw[show(wV==Str.ofString "either")=false by decide +kernel])))
theorem w5{e:Ev}(he:e[0]? = some (some (.str wV))):bE (e2 zbc (eV 0) (eK (.str (Str.ofString "added")))) e S=some (false,S):=jf (e_2 (e_v he) e_k ((z0l _ _).trans (by rw[show(wV==Str.ofString "added")=false by decide +kernel])))
theorem zog:(Z ks n++[MO.exc TM])[(Z ks n).length]? = some (.exc TM):=ziq _ _
theorem zs0(s1:St d1 as h1)(s2:St d2 bs h2)(l1:as.length<=2000)(l2:bs.length<=2000){m:Nat}(hm:(mrg ltI as bs).length=m)(hm2:m<10000):∃n',z9 [.str wE',.obj 2,d1,d2] (Z ks n)=some (due m,Z ks n'):=by
 unfold due;by_cases q:2000<m
 · rw[z55 q];obtain⟨c1,c2⟩:=zph (ks:=ks) (n:=n) s1 s2 l1 l2 (by omega) (by omega);exact⟨n,zb3 (J:=[.exc TM]) zf7 (j8 rfl (zm (zn e_k) (zm (zh4 (zkb (w1 rfl) (ze9 (zb4 (xr (a_c (e_v rfl) (a_c (e_v rfl) (a_c (e_v rfl) (a_c e_k a_n)))) c1)))) ((zne (w1 rfl)).trans ((zb7 (a_c (e_v rfl) (a_c (e_v rfl) (a_c (e_v rfl) (a_c e_k a_n))))).trans c2)) (by decide +kernel) (zn (zi (a_c (e_v rfl) a_n) (zir (zm6 _) zog)))) (zt (e_v rfl))))) rfl⟩
 · rw[z6c q];obtain⟨d,h,n',c,s⟩:=zhb (ks:=ks) (n:=n) s1 s2 l1 l2 (by omega);rw[<-hm];exact⟨n',zoy (J:=[]) rfl zf7 (by rw[z6e];exact j8 rfl (zm (zn e_k) (zm (ze5 (qh (w1 rfl) (zn (zi (a_c (zi (a_c (e_v rfl) (a_c (e_v rfl) (a_c (e_v rfl) (a_c e_k a_n)))) c) a_n) (jo s.mm _))))) (zt (e_v rfl)))))⟩
theorem zxu(tx:Ti x)(s:St d ts h)(hl:ts.length<=2000)(g:hs ltI ts x=false):∃n',z9 [.str wA,.obj 2,d,x] (Z ks n)=some (due (ts.length+1),Z ks n'):=by
 unfold due;by_cases q:2000<ts.length+1
 · rw[z55 q];obtain⟨c1,c2⟩:=zst (ks:=ks) (n:=n) tx s (by omega) g;exact⟨n,zb3 (J:=[.exc TM]) zf7 (j8 rfl (zm (zn e_k) (zm (zh4 (zfn (w2 rfl) (zkb (w3 rfl) (ze9 (zb4 (xr (a_c (e_v rfl) (a_c (e_v rfl) (a_c (e_v rfl) (a_c e_k a_n)))) c1))))) ((znf (w2 rfl)).trans ((zne (w3 rfl)).trans ((zb7 (a_c (e_v rfl) (a_c (e_v rfl) (a_c (e_v rfl) (a_c e_k a_n))))).trans c2))) (by decide +kernel) (zn (zi (a_c (e_v rfl) a_n) (zir (zm6 _) zog)))) (zt (e_v rfl))))) rfl⟩
 · rw[z6c q];obtain⟨d,h,n',ts',c,m,ml⟩:=zqa (ks:=ks) (n:=n) tx s (by omega) g;rw[<-ml];exact⟨n',zoy (J:=[]) rfl zf7 (by rw[z6e];exact j8 rfl (zm (zn e_k) (zm (ze5 (zc5 (w2 rfl) (qh (w3 rfl) (zn (zi (a_c (zi (a_c (e_v rfl) (a_c (e_v rfl) (a_c (e_v rfl) (a_c e_k a_n)))) c) a_n) (jo m _)))))) (zt (e_v rfl)))))⟩
theorem zxt(tx:Ti x)(s:St d ts h)(hl:ts.length<=2000)(g:hs ltI ts x=true):z9 [.str wA,.obj 2,d,x] (Z ks n)=some (.int ts.length,Z ks n) :=
 zoy (J:=[]) rfl zf7 (by rw[z6e];exact j8 rfl (zm (zn e_k) (zm (ze5 (zc5 (w2 rfl) (qh (w3 rfl) (zn (zi (a_c (zi (a_c (e_v rfl) (a_c (e_v rfl) (a_c (e_v rfl) (a_c e_k a_n)))) (zsu tx s hl g)) a_n) (jo s.mm _)))))) (zt (e_v rfl)))))
theorem zxs(a:Int)(s:Ta d ts h)(hl:ts.length<=2000)(g:hs ltP ts (.tup [.int a,.int 5])=false):∃n',z9 [.str wV,.obj 2,d,.int a] (Z ks n)=some (due (ts.length+1),Z ks n'):=by
 unfold due;by_cases q:2000<ts.length+1
 · rw[z55 q];obtain⟨c1,c2⟩:=zuj (ks:=ks) (n:=n) a 5 s (by omega) g;exact⟨n,zb3 (J:=[.exc TM]) zf7 (j8 rfl (zm (zn e_k) (zm (zh4 (zfn (w4 rfl) (zfn (w5 rfl) (ze9 (zb4 (xr (a_c (e_v rfl) (a_c (e_v rfl) (a_c (e_v rfl) (a_c e_k (a_c e_k a_n))))) c1))))) ((znf (w4 rfl)).trans ((znf (w5 rfl)).trans ((zb7 (a_c (e_v rfl) (a_c (e_v rfl) (a_c (e_v rfl) (a_c e_k (a_c e_k a_n)))))).trans c2))) (by decide +kernel) (zn (zi (a_c (e_v rfl) a_n) (zir (zm6 _) zog)))) (zt (e_v rfl))))) rfl⟩
 · rw[z6c q];obtain⟨d,h,n',ts',c,m,ml⟩:=zqh (ks:=ks) (n:=n) a 5 s (by omega) g;rw[<-ml];exact⟨n',zoy (J:=[]) rfl zf7 (by rw[z6e];exact j8 rfl (zm (zn e_k) (zm (ze5 (zc5 (w4 rfl) (zc5 (w5 rfl) (zn (zi (a_c (zi (a_c (e_v rfl) (a_c (e_v rfl) (a_c (e_v rfl) (a_c e_k (a_c e_k a_n))))) c) a_n) (jo m _)))))) (zt (e_v rfl)))))⟩
theorem zpn(m:Nat):zbz (due m) (due m)=some (.bl false):=by
 unfold due;split
 · exact zzg rfl
 · rw[zn6,z9h];rfl
def lE(ns:List Int)(M:Nat)(st:Int)(ks:List Int)(one other:D)(a b c e:Option D):Ev:=[some (.lst (ns.map D.int)),some (.int (M:Int)),some (.int st),some (.lst (thg st M)),some (.obj 1),some (.lst (smk ks)),some (.obj 2),some one,some other,some (.lst (fr st M ks)),a,b,c,e]
theorem zqq{is:List Nat}{f:E}{b:C}{ds:List D}{o:Out}{S2:Sto}(h:f ev S=some (.lst ds,S1))(q:zbm is b ds ev S1=some (o,S2)):zgj is f b ev S=some (o,S2):=by simp only[zgj,h,Option.bind_some,q]
theorem ztm{i j:Nat}{b:C}{x y:D}{ds:List D}{e:Ev}{r:Out×Sto}(h:b ((ev.set i (some x)).set j (some y)) S=some (.nx e,S1))(q:zbm [i,j] b ds e S1=some r):zbm [i,j] b (.tup [x,y]::ds) ev S=some r:=by rw[zbm];simp only[yu,Option.bind_some,h,q]
theorem ix5(i:Nat)(h:i<5):∃v:Nat,v<=2/\∀S,qj S (.lst [.int 0,.int 0,.int 0,.int 1,.int 2]) (.int (i:Int))=some (.int (v:Int)):=by
 have:i=0\/i=1\/i=2\/i=3\/i=4:=by omega
 rcases this with rfl | rfl | rfl | rfl | rfl
 · exact⟨0,by decide,fun _=>rfl⟩
 · exact⟨0,by decide,fun _=>rfl⟩
 · exact⟨0,by decide,fun _=>rfl⟩
 · exact⟨1,by decide,fun _=>rfl⟩
 · exact⟨2,by decide,fun _=>rfl⟩
theorem zvm(al:Al Ti ts):zbz (.lst ts) (.lst ts)=some (.bl false):=zzg (zvl (by decide) (zyx (k:=0) fun x hx=>zqm (al x hx)))
theorem zv2{q:Nat}(hq:ev[q]? = some (some (.obj 1)))(hl:ks.length<=100000):zkk (eV q) ev [tK,.dct (kv ks)]=some (.lst (ks.map D.int),[tK,.dct (kv ks)]):=by
 have hk:(kv ks).length<=100000:=by unfold kv;rw[z6s];exact hl
 have e:(kv ks).map (fun q=>D.int q.1)=ks.map D.int:=by unfold kv;rw[z8g];rfl
 simp only[zkk,e_v hq,Option.bind_some];show(if(kv ks).length<=100000 then some (D.lst ((kv ks).map fun q=>.int q.1),[tK,MO.dct (kv ks)])else none)=_;rw[z55 hk,e]
def prs(ts:List D):List D:=ts.map fun x=>.tup [x,.int 0]
theorem zyw(al:Al Ti ts):Al TP (prs ts):=fun z hz=>by obtain⟨x,hx,rfl⟩:=z7q.mp hz;obtain⟨a,rfl⟩:=al x hx;exact zh1 a 0
theorem zyv(s:Srt ltI ts):Srt ltP (prs ts):=by unfold Srt prs;rw[z7u];exact s
theorem zyu(al:Al Ti ts):∀x∈prs ts,Thing 0 x:=fun z hz=>by obtain⟨x,hx,rfl⟩:=z7q.mp hz;obtain⟨a,rfl⟩:=al x hx;exact zvi a 0
theorem zuu{p:Nat}(s:Srt ltP ts)(hp:p<ts.length)(e:iv (fs ts[p])=iv (fs x)):Srt ltP (ts.set p x):=by
 have q:∀l:List D,Srt ltP l↔(l.map fun z=>iv (fs z)).Pairwise (· < ·):=fun l=>by unfold Srt;rw[z7u];exact⟨fun h=>h.imp z63,fun h=>h.imp z6b⟩
 rw[q]at s ⊢;rw[List.map_set,<-e];have:(ts.map fun z=>iv (fs z)).set p (iv (fs ts[p]))=ts.map fun z=>iv (fs z):=by
   have hp':p<(ts.map fun z=>iv (fs z)).length:=by rw[z6s];exact hp
   have:=List.set_getElem_self (as:=ts.map fun z=>iv (fs z)) hp';rw[List.getElem_map]at this;exact this
 rw[this];exact s
def cT:C:=(qb (sIf (bOr (bE (e2 zbc (eV 1) (eK (.int 0)))) (bE (e2 zbc (e2 q9 (zk z5 (aC (eV 0) (aC (eK (.int 5)) aN))) (eK (.int 2))) (eK (.int 0))))) (qi (eK (.bl true))) jy) (qb (qm 12 (e2s qj (eV 3) (e2 q9 (zk z5 (aC (eV 0) (aC (eK (.int 3)) aN))) (eV 1)))) (qb (sIf (bE (e2 zbz (zk z9 (aC (eK (.str (Str.ofString "added"))) (aC (eV 6) (aC (eV 7) (aC (eV 12) aN))))) (eV 1))) (qi (eK (.bl false))) jy) (qb (qm 13 (zk qw (aC (eV 6) (aC (jm [] (zht (eV 3)) zl9 (za8 (aC (eV 0) (aC (eK (.int 0)) aN)))) aN)))) (qb (sIf (bE (e2 zbz (zk z9 (aC (eK (.str (Str.ofString "value"))) (aC (eV 6) (aC (eV 13) (aC (e1 zxc (eK (.int 1))) aN))))) (zk jd (aC (e2 qa (eV 1) (eK (.int 1))) aN)))) (qi (eK (.bl false))) jy) (qi (e2 zbc (zk yd (aC (zk jh (aC (eV 6) (aC (eV 13) (aC (eV 12) (aC (eK (.int 7)) (aC (eK (.fn "_law_less")) aN)))))) (aC (eV 12) (aC (eK (.fn "_law_less")) aN)))) (eK (.int 7)))))))))
theorem zuo(ns:List Int)(hn:ns.length<=63)(hM:M<=2000)(s0:1<=st){one oth:D}{ho:Nat}(so:St one (thg st M) ho){a b:Option D}:∃S2,cT (lE ns M st ks one oth a b none none) (Z ks n)=some (.rt (.bl true),S2):=by
 obtain⟨c3,_,_,hc3⟩:=yr ns hn (q:=3) (by decide) (by decide);obtain⟨c5,_,_,hc5⟩:=yr ns hn (q:=5) (by decide) (by decide);have ln1:(thg st M).length<=2000:=by rw[za2];exact hM
 have t1:bE (e2 zbc (eV 1) (eK (.int 0))) (lE ns M st ks one oth a b none none) (Z ks n)=some (decide ((M:Int)=0),Z ks n):=jf (e_2 (e_v rfl) e_k (z11 _ _));have t2:bE (e2 zbc (e2 q9 (zk z5 (aC (eV 0) (aC (eK (.int 5)) aN))) (eK (.int 2))) (eK (.int 0))) (lE ns M st ks one oth a b none none) (Z ks n)=some (decide (c5%2=0),Z ks n):=jf (e_2 (e_2 (zi (a_c (e_v rfl) (a_c e_k a_n)) (hc5 _)) e_k (zbk (by decide))) e_k (z11 _ _));by_cases q0:(M:Int)=0
 · exact⟨_,jb (qh (z1c (t1.trans (by rw[z6b q0]))) (zt e_k))⟩
 by_cases q1:c5%2=0
 · exact⟨_,jb (qh (zw0 (t1.trans (by rw[z54 q0])) (t2.trans (by rw[z6b q1]))) (zt e_k))⟩
 have r16:=zu (a:=qi (eK (.bl true))) (zw0 (t1.trans (by rw[z54 q0])) (t2.trans (by rw[z54 q1])));obtain⟨p,hp,ep⟩:=zdd c3 (c:=M) (by omega);have hpl:p<(thg st M).length:=by rw[za2];exact hp
 have hmem:=z8b hpl;obtain⟨v,ev⟩:=j9 _ hmem;rw[ev]at hmem;have hat:(thg st M)[p]? = some (.int v):=by rw[z5v hpl,ev]
 have r17:qm 12 (e2s qj (eV 3) (e2 q9 (zk z5 (aC (eV 0) (aC (eK (.int 3)) aN))) (eV 1))) (lE ns M st ks one oth a b none none) (Z ks n)=some (.nx (lE ns M st ks one oth a b (some (.int v)) none),Z ks n):=zn (qy (e_v rfl) (e_2 (zi (a_c (e_v rfl) (a_c e_k a_n)) (hc3 _)) (e_v rfl) ep) (zf5 hat));have q3:=zxt (ks:=ks) (n:=n) (x:=.int v) ⟨v,rfl⟩ so ln1 ((zrr j9 ⟨v,rfl⟩).mpr hmem);rw[za2]at q3;have r18:sIf (bE (e2 zbz (zk z9 (aC (eK (.str (Str.ofString "added"))) (aC (eV 6) (aC (eV 7) (aC (eV 12) aN))))) (eV 1))) (qi (eK (.bl false))) jy (lE ns M st ks one oth a b (some (.int v)) none) (Z ks n)=some (.nx (lE ns M st ks one oth a b (some (.int v)) none),Z ks n):=zu (jf (e_2 (zi (a_c e_k (a_c (e_v rfl) (a_c (e_v rfl) (a_c (e_v rfl) a_n)))) q3) (e_v rfl) ((zn6 _ _).trans (by rw[z9h];rfl))));have pl:(prs (thg st M)).length=M:=by unfold prs;rw[z6s,za2]
 obtain⟨tb,ht,n1,ct,mt⟩:=zn9 (ks:=ks) (n:=n) (zyu (j9 (st:=st) (M:=M))) (by rw[pl];exact hM);have sT:Ta tb (prs (thg st M)) ht:=⟨mt,zyw j9,zyv (zav s0)⟩
 have r19:qm 13 (zk qw (aC (eV 6) (aC (jm [] (zht (eV 3)) zl9 (za8 (aC (eV 0) (aC (eK (.int 0)) aN)))) aN))) (lE ns M st ks one oth a b (some (.int v)) none) (Z ks n)=some (.nx (lE ns M st ks one oth a b (some (.int v)) (some tb)),Z ks n1):=zn (zi (a_c (e_v rfl) (a_c (z02 (f:=fun x=>.tup [x,.int 0]) (e_v rfl) fun x hx=>zbx (a_c (e_v rfl) (a_c e_k a_n)) (z6q rfl)) a_n)) ct);have g1:hs ltP (prs (thg st M)) (.tup [.int (-1),.int 5])=false:=hs_no.mpr fun y hy r=>by obtain⟨x,hx,rfl⟩:=z7q.mp hy;have:=zs1 s0 hx;have e:iv x=-1:=alk_P.mp r;omega
 obtain⟨n2,q4⟩:=zxs (ks:=ks) (n:=n1) (-1) sT (by rw[pl];exact hM) g1;rw[pl]at q4;have r20:sIf (bE (e2 zbz (zk z9 (aC (eK (.str (Str.ofString "value"))) (aC (eV 6) (aC (eV 13) (aC (e1 zxc (eK (.int 1))) aN))))) (zk jd (aC (e2 qa (eV 1) (eK (.int 1))) aN)))) (qi (eK (.bl false))) jy (lE ns M st ks one oth a b (some (.int v)) (some tb)) (Z ks n1)=some (.nx (lE ns M st ks one oth a b (some (.int v)) (some tb)),Z ks n2):=zu (jf (e_2 (zi (a_c e_k (a_c (e_v rfl) (a_c (e_v rfl) (a_c rfl a_n)))) q4) (zi (a_c (e_2 (e_v rfl) e_k (zue M)) a_n) (zpm _ zf7)) (zpn _)));have mem0:.tup [.int v,.int 0]∈prs (thg st M):=z7q.mpr ⟨_,hmem,rfl⟩;have g2:hs ltP (prs (thg st M)) (.tup [.int v,.int 7])=true:=hs_iff.mpr ⟨_,mem0,alk_P.mpr rfl⟩;obtain⟨tc,h7,n3,cw,mw⟩:=zqg (ks:=ks) (n:=n2) v 7 sT (by rw[pl];exact hM) g2;obtain⟨y,hy,ry⟩:=(zrq bfP.sw (zh1 v 7) sT.al sT.sr).mp g2;obtain⟨hcb,ey⟩:=z5s.mp hy;have ky:iv (fs (prs (thg st M))[cb ltP (prs (thg st M)) (.tup [.int v,.int 7])])=iv (fs (.tup [.int v,.int 7])):=by rw[ey];have hd:y∈(prs (thg st M)).drop (cb ltP (prs (thg st M)) (.tup [.int v,.int 7])):=z6j (i:=0) (by rw[z82,Nat.add_zero];exact hy);exact alk_P.mp ⟨(zc1 bfP.sw (zh1 v 7) sT.al sT.sr).2 y hd,ry⟩
 have sW:Ta tc ((prs (thg st M)).set (cb ltP (prs (thg st M)) (.tup [.int v,.int 7])) (.tup [.int v,.int 7])) h7:=⟨mw,fun z hz=>by
   rcases List.mem_or_eq_of_mem_set hz with q | q
   · exact sT.al z q
   · rw[q];exact zh1 v 7,zuu sT.sr hcb ky⟩
 have mem1:.tup [.int v,.int 7]∈(prs (thg st M)).set (cb ltP (prs (thg st M)) (.tup [.int v,.int 7])) (.tup [.int v,.int 7]):=z6j (i:=cb ltP (prs (thg st M)) (.tup [.int v,.int 7])) (by rw[z6r hcb]);have cv:=zhz (ks:=ks) (n:=n3) v sW (by rw[z7m,pl];exact hM) mem1;exact⟨_,zm r16 (zm r17 (zm r18 (zm r19 (zm r20 (zt (e_2 (zi (a_c (zi (a_c (e_v rfl) (a_c (e_v rfl) (a_c (e_v rfl) (a_c e_k (a_c e_k a_n))))) cw) (a_c (e_v rfl) (a_c e_k a_n))) cv) e_k rfl))))))⟩
theorem law_ok:zuf tabs g_law:=by
 intro ns hn;obtain⟨c0,_,_,hc0⟩:=yr ns hn (q:=0) (by decide) (by decide);obtain⟨c1,_,_,hc1⟩:=yr ns hn (q:=1) (by decide) (by decide);obtain⟨c3,_,_,hc3⟩:=yr ns hn (q:=3) (by decide) (by decide);obtain⟨c4,_,_,hc4⟩:=yr ns hn (q:=4) (by decide) (by decide);obtain⟨c5,_,_,hc5⟩:=yr ns hn (q:=5) (by decide) (by decide);obtain⟨m0,hm0,em0⟩:=zdd c4 (c:=21) (by decide);obtain⟨w0,hw0,ew0⟩:=zdd c0 (c:=5) (by decide);obtain⟨t0,ht0,et0⟩:=zdd c1 (c:=5) (by decide);obtain⟨M,hM,r2⟩:∃M:Nat,M<=2000/\sIf (bE (e2 zbc (e2 q9 (e2 yb (zk z5 (aC (eV 0) (aC (eK (.int 4)) aN))) (eK (.int 21))) (eK (.int 5))) (eK (.int 2)))) (qm 1 (e2 y7 (eK (.int 2000)) (e2s qj (zr9 (aC (eK (.int 0)) (aC (eK (.int 0)) (aC (eK (.int 0)) (aC (eK (.int 1)) (aC (eK (.int 2)) aN)))))) (e2 q9 (zk z5 (aC (eV 0) (aC (eK (.int 0)) aN))) (eK (.int 5)))))) jy [some (.lst (ns.map D.int)),some (.int (m0:Int)),none,none,none,none,none,none,none,none,none,none,none,none] [tK]=some (.nx [some (.lst (ns.map D.int)),some (.int (M:Int)),none,none,none,none,none,none,none,none,none,none,none,none],[tK]):=by
   by_cases q:c4/21%5=2
   · obtain⟨v,hv,ev⟩:=ix5 w0 hw0;refine⟨2000-v,by omega,qh (jf (e_2 (e_2 (e_2 (zi (a_c (e_v rfl) (a_c e_k a_n)) (hc4 _)) e_k (zhe (by decide))) e_k (zbk (by decide))) e_k ((z11 _ _).trans (by rw[z6b q])))) (zn (e_2 e_k (qy (zr8 (a_c e_k (a_c e_k (a_c e_k (a_c e_k (a_c e_k a_n))))) (z6q rfl)) (e_2 (zi (a_c (e_v rfl) (a_c e_k a_n)) (hc0 _)) e_k ew0) (ev _)) ((sub_int _ _).trans ?_)))⟩;rw[show(2000:Int)-(v:Int)=((2000-v:Nat):Int) by omega]
   · exact⟨m0,by omega,zu (jf (e_2 (e_2 (e_2 (zi (a_c (e_v rfl) (a_c e_k a_n)) (hc4 _)) e_k (zhe (by decide))) e_k (zbk (by decide))) e_k ((z11 _ _).trans (by rw[z54 q]))))⟩
 have hst:∃st:Int,1<=st/\st<=5/\qa (.int 1) (.int (t0:Int))=some (.int st):=⟨1+t0,by omega,by omega,add_int _ _⟩
 obtain⟨st,s0,s1,est⟩:=hst;obtain⟨ks,nd,kl,co⟩:=znw (M:=M) ns hn s0 s1;have al1:Al Ti (thg st M):=j9;have sr1:Srt ltI (thg st M):=zav s0;have ln1:(thg st M).length<=2000:=by rw[za2];exact hM
 have al2:Al Ti (smk ks):=kh;have sr2:=zbf nd;have ln2:(smk ks).length<=2000:=by rw[zm0];omega
 obtain⟨one,ho,n1,mo,so⟩:=zdc (ks:=ks) (n:=0) al1 sr1 ln1;obtain⟨oth,hp,n2,mp,sp⟩:=zdc (ks:=ks) (n:=n1) al2 sr2 ln2;obtain⟨u1,u2⟩:=zuk (M:=M) s0 nd;have fl:(fr st M ks).length<=4:=by have:=z7x (fun x=>!hs ltI (thg st M) x) (smk ks);rw[zm0]at this;exact z6h this kl
 obtain⟨n3,q3⟩:=zs0 (ks:=ks) (n:=n2) so sp ln1 ln2 u1 (by omega);obtain⟨n4,q4⟩:=zs0 (ks:=ks) (n:=n3) sp so ln2 ln1 u2 (by omega);obtain⟨dc,h5,n5,q5,sc⟩:=zpv (ks:=ks) (n:=n4) so sp ln1 ln2;obtain⟨dl,h6,n6,q6,sl⟩:=zv3 (ks:=ks) (n:=n5) so sp ln1 ln2;have tn:Ti (.int (-1)):=⟨_,rfl⟩
 have hn1:hs ltI (thg st M) (.int (-1))=false:=by rw[z64,ne_eq,zrr j9 tn];intro z;have:=zs1 s0 z;exact absurd this (by decide)
 have lenf:∀{a b c e:Option D}{S:Sto},e2 qa (eV 1) (eA zdj (aC (eV 9) aN)) (lE ns M st ks one oth a b c e) S=some (.int ((M+(fr st M ks).length:Nat):Int),S):=fun {a b c e S}=>e_2 (e_v rfl) (e_a (a_c (e_v rfl) a_n) rfl) (add_int _ _);have body:∀{f g:D}{k k':Int},z9 [.str wE',.obj 2,f,g] (Z ks k)=some (due (M+(fr st M ks).length),Z ks k')->(sIf (bE (e2 zbz (zk z9 (aC (eK (.str (Str.ofString "either"))) (aC (eV 6) (aC (eV 10) (aC (eV 11) aN))))) (zk jd (aC (e2 qa (eV 1) (eA zdj (aC (eV 9) aN))) aN)))) (qi (eK (.bl false))) jy) (lE ns M st ks one oth (some f) (some g) none none) (Z ks k)=some (.nx (lE ns M st ks one oth (some f) (some g) none none),Z ks k'):=fun {f g k k'} h=>zu (jf (e_2 (zi (a_c e_k (a_c (e_v rfl) (a_c (e_v rfl) (a_c (e_v rfl) a_n)))) h) (zi (a_c lenf a_n) (zpm _ zf7)) (zpn _)));have r11:zgj [10,11] (zr9 (aC (za8 (aC (eV 7) (aC (eV 8) aN))) (aC (za8 (aC (eV 8) (aC (eV 7) aN))) aN))) (sIf (bE (e2 zbz (zk z9 (aC (eK (.str (Str.ofString "either"))) (aC (eV 6) (aC (eV 10) (aC (eV 11) aN))))) (zk jd (aC (e2 qa (eV 1) (eA zdj (aC (eV 9) aN))) aN)))) (qi (eK (.bl false))) jy) (lE ns M st ks one oth none none none none) (Z ks n2)=some (.nx (lE ns M st ks one oth (some oth) (some one) none none),Z ks n4):=by refine zqq (zr8 (a_c (zbx (a_c (e_v rfl) (a_c (e_v rfl) a_n)) (z6q rfl)) (a_c (zbx (a_c (e_v rfl) (a_c (e_v rfl) a_n)) (z6q rfl)) a_n)) (z6q rfl)) ?_;exact ztm (body q3) (ztm (body q4) rfl)
 have r12:sIf (bE (e2 zbz (zk z8 (aC (zk zbs (aC (eV 6) (aC (eV 7) (aC (eV 8) (aC (eK (.fn "_law_less")) aN))))) aN)) (jm [9] (zht (eV 5)) (bE (e2 zaj (eV 0) (eV 1))) (eV 0)))) (qi (eK (.bl false))) jy (lE ns M st ks one oth (some oth) (some one) none none) (Z ks n4)=some (.nx (lE ns M st ks one oth (some oth) (some one) none none),Z ks n5):=by refine zu (jf (e_2 (zi (a_c (zi (a_c (e_v rfl) (a_c (e_v rfl) (a_c (e_v rfl) (a_c e_k a_n)))) q5) a_n) (ju sc.mm (z6h (z7x ..) ln1) zf7)) (zhg (e_v rfl) fun x hx=>jf (e_2 (e_v rfl) (e_v rfl) (zn4 zoz (al2 x hx)))) ?_));rw[z03 s0 nd];exact zvm (zw4 al2)
 have r13:sIf (bE (e2 zbz (zk z8 (aC (zk zg4 (aC (eV 6) (aC (eV 7) (aC (eV 8) (aC (eK (.fn "_law_less")) aN))))) aN)) (jm [4] (zht (eV 3)) (bE (e2s zc9 (eV 0) (eV 1))) (eV 0)))) (qi (eK (.bl false))) jy (lE ns M st ks one oth (some oth) (some one) none none) (Z ks n5)=some (.nx (lE ns M st ks one oth (some oth) (some one) none none),Z ks n6):=by
   refine zu (jf (e_2 (zi (a_c (zi (a_c (e_v rfl) (a_c (e_v rfl) (a_c (e_v rfl) (a_c e_k a_n)))) q6) a_n) (ju sl.mm (z6h (z7x ..) ln1) zf7)) (zhg (p:=fun x=>!zl8 (kv ks) (iv x)) (e_v rfl) fun x hx=>?_) ?_))
   · obtain⟨a,rfl⟩:=al1 x hx;exact jf (qy (e_v rfl) (e_v rfl) rfl)
   · rw[zzk];exact zvm (zw4 al1)
 obtain⟨n7,r14⟩:∃n7,sIf (zhv (bE (e2 zb8 (e2 qa (eV 1) (eA zdj (aC (eV 9) aN))) (eK (.int 2001)))) (bE (e2 zbz (zk z8 (aC (zk yn (aC (eV 6) (aC (eV 7) (aC (eV 8) (aC (eK (.fn "_law_less")) aN))))) aN)) (zew (e2 qa (eV 3) (eV 9)))))) (qi (eK (.bl false))) jy (lE ns M st ks one oth (some oth) (some one) none none) (Z ks n6)=some (.nx (lE ns M st ks one oth (some oth) (some one) none none),Z ks n7):=by
   by_cases q:M+(fr st M ks).length<2001
   · obtain⟨de,h7,n7,q7,se⟩:=zhb (ks:=ks) (n:=n6) so sp ln1 ln2 (by omega);refine⟨n7,zu (zey (jf (e_2 lenf e_k ((zv1 _ _).trans (by rw[z6b (by omega)])))) (jf (e_2 (zi (a_c (zi (a_c (e_v rfl) (a_c (e_v rfl) (a_c (e_v rfl) (a_c e_k a_n)))) q7) a_n) (ju se.mm (by omega) zf7)) (zmw (e_2 (e_v rfl) (e_v rfl) (zw6 (by omega))) (by rw[z5n];omega) zkx (zuc s0 nd)) ?_)))⟩;rw[zxn s0 nd];exact zvm (zbn zkx)
   · exact⟨n6,zu (zkv (jf (e_2 lenf e_k ((zv1 _ _).trans (by rw[z54 (by omega)])))))⟩
 obtain⟨n8,q8⟩:=zxu (ks:=ks) (n:=n7) tn so ln1 hn1;rw[za2]at q8;have r15:sIf (bE (e2 zbz (zk z9 (aC (eK (.str (Str.ofString "added"))) (aC (eV 6) (aC (eV 7) (aC (e1 zxc (eK (.int 1))) aN))))) (zk jd (aC (e2 qa (eV 1) (eK (.int 1))) aN)))) (qi (eK (.bl false))) jy (lE ns M st ks one oth (some oth) (some one) none none) (Z ks n7)=some (.nx (lE ns M st ks one oth (some oth) (some one) none none),Z ks n8):=zu (jf (e_2 (zi (a_c e_k (a_c (e_v rfl) (a_c (e_v rfl) (a_c rfl a_n)))) q8) (zi (a_c (e_2 (e_v rfl) e_k (zue M)) a_n) (zpm _ zf7)) (zpn _)));obtain⟨S2,last⟩:=zuo (ks:=ks) (n:=n8) ns hn hM s0 (oth:=oth) so (a:=some oth) (b:=some one);have r4:qm 3 (jm [2] (zxb (eV 1)) zl9 (e2 j6 (eV 1) (eV 0))) [some (.lst (ns.map D.int)),some (.int (M:Int)),some (.int st),none,none,none,none,none,none,none,none,none,none,none] [tK]=some (.nx [some (.lst (ns.map D.int)),some (.int (M:Int)),some (.int st),some (.lst (thg st M)),none,none,none,none,none,none,none,none,none,none],[tK]):=by refine zn (z01 (f:=mul st) hM (e_v rfl) fun x hx=>?_);obtain⟨i,rfl,_⟩:=rng (show M<=10000 by omega) x hx;exact e_2 (e_v rfl) (e_v rfl) (zgv ⟨by omega,by omega⟩)
 have r10:qm 9 (jm [1,2] (zht (eV 5)) (bOr (bE (e2 zbz (e2 q9 (eV 0) (eV 2)) (eK (.int 0)))) (bE (e2 zai (e2 yb (eV 0) (eV 2)) (eV 1)))) (eV 0)) [some (.lst (ns.map D.int)),some (.int (M:Int)),some (.int st),some (.lst (thg st M)),some (.obj 1),some (.lst (smk ks)),some (.obj 2),some one,some oth,none,none,none,none,none] (Z ks n2)=some (.nx (lE ns M st ks one oth none none none none),Z ks n2):=zn (zhg (p:=fun x=>!hs ltI (thg st M) x) (e_v rfl) fun x hx=>z49 s0 s1 hM (al2 x hx));exact⟨S2,j8 rfl (zm (zn (e_2 (zi (a_c (e_v rfl) (a_c e_k a_n)) (hc4 _)) e_k em0)) (zm r2 (zm (zn (e_2 e_k (e_2 (zi (a_c (e_v rfl) (a_c e_k a_n)) (hc1 _)) e_k et0) est)) (zm r4 (zm (zn (zi (a_c (e_v rfl) (a_c (e_v rfl) (a_c (e_v rfl) a_n))) co)) (zm (zn (d:=.lst (smk ks)) (zmw (zv2 rfl (by omega)) (by rw[z6s];omega) ziu (zoo nd))) (zm (zn (S1:=Z ks 0) zui) (zm (zn (zi (a_c (e_v rfl) (a_c (e_v rfl) a_n)) mo)) (zm (zn (zi (a_c (e_v rfl) (a_c (e_v rfl) a_n)) mp)) (zm r10 (zm r11 (zm r12 (zm r13 (zm r14 (zm r15 last)))))))))))))))⟩
end Pg
namespace Pg
open PySem L2 F PySem.Spec PyProof.Rows
variable {P:Program}{w:World}{K:zFr}{mg:zMg}{base:Heap}{f:Addr}{cdv:Value}{A:Around}{outer:List Env}{s:Shared}{H:Hp}{E:XK}
seal F.FE F.FB F.FW F.FA F.FS F.FSs F.FPt F.RE F.RS F.RSs F.RTs
def top(i:Nat):Stmt:=PySem.Challenge.pw_ownshelf_k26_sets_too_great.main.body.getD i (.Pass ⟨0,0,0,0⟩)
theorem _root_.L2.FnScope.auto7{N P:List Str}{sc:Scope}(h1:sc.kind=.function:=by rfl)(h2:sc.isCoroutine=false:=by rfl)(h3:sc.isGenerator=false:=by rfl)(h4:N.Nodup:=by decide +kernel)(h5:N.take P.length=P:=by rfl)(h6:∀x∈P,sc.names.lookup x=some .local\/sc.names.lookup x=some .cell:=by decide +kernel)(h7:∀y∈sc.names,y.2≠.free:=by decide +kernel):L2.FnScope N P sc:=⟨h1,h2,h3,h4,h5,h6,h7⟩
theorem _root_.L2.Room.rmd{j k:Nat}{A:Around}(r:Room k A)(h:j<=k:=by decide):Room j A:=r.mono h
abbrev s_Wood___init__:Stmt:=zfm (top 46) 0
abbrev s__law_cell:Stmt:=top 78
abbrev s__law_due:Stmt:=top 82
abbrev s__law_others:Stmt:=top 83
abbrev s__law_kind:Stmt:=top 80
abbrev s__law_less:Stmt:=top 79
abbrev s_check_place:Stmt:=top 48
abbrev s_size:Stmt:=top 27
abbrev s_seen:Stmt:=top 32
abbrev s_thing_at:Stmt:=top 54
abbrev s_at:Stmt:=top 53
abbrev s_is_alike_at:Stmt:=top 63
abbrev s_count_before:Stmt:=top 61
abbrev s_place_of:Stmt:=top 60
abbrev s_check_room:Stmt:=top 45
abbrev s_Wood_numbered:Stmt:=zfm (top 46) 4
abbrev s_height:Stmt:=top 28
abbrev s_height_above:Stmt:=top 34
abbrev s_in_balance:Stmt:=top 35
abbrev s_size_above:Stmt:=top 33
abbrev s_back:Stmt:=top 30
abbrev s_backward_sum:Stmt:=top 38
abbrev s_total:Stmt:=top 29
abbrev s_onward_sum:Stmt:=top 37
abbrev s_sums_above:Stmt:=top 36
abbrev s_Wood_node:Stmt:=zfm (top 46) 2
abbrev s_Wood_turned:Stmt:=zfm (top 46) 3
abbrev s_parts:Stmt:=top 31
abbrev s_lifted_left:Stmt:=top 41
abbrev s_lifted_right:Stmt:=top 42
abbrev s_balanced:Stmt:=top 40
abbrev s_put_in:Stmt:=top 56
abbrev s_put:Stmt:=top 55
abbrev s_added:Stmt:=top 64
abbrev s_built:Stmt:=top 50
abbrev s_make_of:Stmt:=top 49
abbrev s_merged:Stmt:=top 67
abbrev s_gather:Stmt:=top 52
abbrev s_things_of:Stmt:=top 51
abbrev s_either:Stmt:=top 66
abbrev s_by_key:Stmt:=top 73
abbrev s_given:Stmt:=top 58
abbrev s_swapped:Stmt:=top 57
abbrev s_with_value:Stmt:=top 76
abbrev s__law_told:Stmt:=top 81
abbrev s_has:Stmt:=top 62
abbrev s_common:Stmt:=top 68
abbrev s_less:Stmt:=top 69
abbrev s_place_of_alike:Stmt:=top 65
abbrev s_sought:Stmt:=top 74
abbrev s_value_of:Stmt:=top 75
abbrev s_law:Stmt:=top 84
structure TX (K:zFr) (mg:zMg) (base:Heap):Prop where
 ucv:mg "ValueError"=none
 ugj:mg "abs"=none
 uay:mg "isinstance"=none
 uau:mg "len"=none
 ugh:mg "list"=none
 ugk:mg "max"=none
 ub2:mg "range"=none
 udd:mg "sorted"=none
 ubz:∃t,mg "ABOUT"=some (.int 1 t)
 uab:∃t,mg "AHEAD"=some (.int 0 t)
 uge:∃t,mg "BACK"=some (.int 8 t)
 uad:∃t,mg "BEHIND"=some (.int 2 t)
 ufb:∃t,mg "HEIGHT"=some (.int 6 t)
 ufk:∃t,mg "KEY"=some (.int 0 t)
 uba:∃t,mg "LEFT"=some (.int 2 t)
 uah:∃t,mg "MIDDLE"=some (.int 1 t)
 uav:∃t,mg "MOST_THINGS"=some (.int 2000 t)
 ua2:∃t,mg "RIGHT"=some (.int 4 t)
 uf7:∃t,mg "SIZE"=some (.int 5 t)
 ua4:∃t,mg "THING"=some (.int 3 t)
 uf3:∃t,mg "TOTAL"=some (.int 7 t)
 uas:∃t,mg "TURNED"=some (.int 3 t)
 ufp:∃t,mg "VALUE"=some (.int 1 t)
 ua8:Fld K mg "Wood" "adding"
 uan:Fld K mg "Wood" "nodes_made"
 uee:∃f,mg "Changed"=some (.ref f)
 uds:∃f,mg "NoBalance"=some (.ref f)
 uew:∃f,mg "NoMore"=some (.ref f)
 ue7:∃f,mg "NoName"=some (.ref f)
 ud6:∃f,mg "NoNumber"=some (.ref f)
 uea:∃f,mg "NoPlace"=some (.ref f)
 ufy:∃f,mg "NoRow"=some (.ref f)
 ufw:∃f,mg "NoSum"=some (.ref f)
 ueq:∃f,mg "NoThing"=some (.ref f)
 uf0:∃f,mg "NoWay"=some (.ref f)
 uep:∃f,mg "TooMany"=some (.ref f)
 ueh:ExcCls K mg "TooMany"
 up:UpOk K mg up
 blt:zqc base mg
 ua0:HasMk K mg "Wood" "Wood.__init__" s_Wood___init__ 1
 udp:HasDef K mg "_law_cell" s__law_cell 0
 ud7:HasDef K mg "_law_due" s__law_due 0
 uci:HasDef K mg "_law_others" s__law_others 0
 udl:HasDef K mg "_law_kind" s__law_kind 0
 uac:HasDef K mg "_law_less" s__law_less 0
 uch:HasDef K mg "check_place" s_check_place 0
 uf8:HasDef K mg "size" s_size 0
 uga:HasDef K mg "seen" s_seen 0
 ubo:HasDef K mg "thing_at" s_thing_at 0
 ugm:HasDef K mg "at" s_at 0
 ucg:HasDef K mg "is_alike_at" s_is_alike_at 0
 ua3:HasDef K mg "count_before" s_count_before 0
 udx:HasDef K mg "place_of" s_place_of 0
 ubd:HasDef K mg "check_room" s_check_room 0
 ubq:HasMth K mg "Wood" "numbered" "Wood.numbered" s_Wood_numbered
 ufi:HasDef K mg "height" s_height 0
 ub7:HasDef K mg "height_above" s_height_above 0
 udc:HasDef K mg "in_balance" s_in_balance 0
 uc7:HasDef K mg "size_above" s_size_above 0
 ugb:HasDef K mg "back" s_back 0
 ub3:HasDef K mg "backward_sum" s_backward_sum 0
 ufo:HasDef K mg "total" s_total 0
 uc1:HasDef K mg "onward_sum" s_onward_sum 0
 uc5:HasDef K mg "sums_above" s_sums_above 0
 udn:HasMth K mg "Wood" "node" "Wood.node" s_Wood_node
 ucq:HasMth K mg "Wood" "turned" "Wood.turned" s_Wood_turned
 ufq:HasDef K mg "parts" s_parts 0
 ucn:HasDef K mg "lifted_left" s_lifted_left 0
 ucb:HasDef K mg "lifted_right" s_lifted_right 0
 ud2:HasDef K mg "balanced" s_balanced 0
 uct:HasDef K mg "put_in" s_put_in 0
 ufn:HasDef K mg "put" s_put 0
 udw:HasDef K mg "added" s_added 0
 udu:HasDef K mg "built" s_built 0
 uce:HasDef K mg "make_of" s_make_of 0
 ufc:HasDef K mg "merged" s_merged 0
 ucu:HasDef K mg "gather" s_gather 0
 udq:HasDef K mg "things_of" s_things_of 0
 ucw:HasDef K mg "either" s_either 0
 uez:HasDef K mg "by_key" s_by_key 0
 udv:HasDef K mg "given" s_given 0
 uek:HasDef K mg "swapped" s_swapped 0
 ubb:HasDef K mg "with_value" s_with_value 0
 udk:HasDef K mg "_law_told" s__law_told 0
 ugl:HasDef K mg "has" s_has 0
 ue3:HasDef K mg "common" s_common 0
 uf4:HasDef K mg "less" s_less 0
 ubj:HasDef K mg "place_of_alike" s_place_of_alike 0
 uey:HasDef K mg "sought" s_sought 0
 ud3:HasDef K mg "value_of" s_value_of 0
 ugn:HasDef K mg "law" s_law 0
theorem z4x:CloScope ["one", "other"] ["before"] lt_0.scope:=⟨rfl,rfl,rfl,by decide +kernel,(z8k.mpr ⟨rfl,(z8k.mpr ⟨rfl,(fun _ h=>nomatch h)⟩)⟩),(z8k.mpr ⟨rfl,(fun _ h=>nomatch h)⟩),by decide +kernel,by decide +kernel⟩
theorem z5d(T:TX K mg base)(hft:∀x g,ft x=some g->Cal P w K mg base 1 x g)(hct1:∀t g,zlw t=some g->CCal P w K mg base 1 t g){a c:Addr}{cl:zLA}{A:Around}{outer:List Env}{s:Shared}{H H1:Hp}{E:XK}(hr:Room 1 (A.deeper (PySem.W.envX lt_0.qual lt_0.scope s.heap.objs.size a (.ref c) cl))) :
   FE (cxC P w K mg base ["one", "other", "before"] lt_0.qual lt_0.scope a (.ref c) cl A outer s H H1 E).nox lt_0.body z3f:=by
 exact(zbw (fun x g e=>(hft x g e).mono (by decide)) (fun _ _ h=>by cases h) hct1 hr.rmd (zf 2) (zb (zx (zf 0) (zy T.ufk)) (zb (zx (zf 1) (zy T.ufk)) zd)))
theorem z45(T:TX K mg base)(hft:∀x g,ft x=some g->Cal P w K mg base 1 x g)(hct1:∀t g,zlw t=some g->CCal P w K mg base 1 t g):CCal P w K mg base 2 lt_0 z1w:=CCal.of (t:=lt_0) (ps:=["one", "other"]) (k:=1) (f:=z3f) z4x rfl (fun _ _ _ _=>ls2 fun _ _=>rfl) (fun a c cl A outer s H H1 E hr=>z5d T hft hct1 hr)
theorem sc_Wood___init__:FnScope ["self", "add"] ["self", "add"] (zh s_Wood___init__):=.auto7
theorem zac(T:TX K mg base)(hr:Room 0 (A.deeper (envOfC "Wood.__init__" (zh s_Wood___init__) s.heap.objs.size f cdv))) :
   FSs (zca CX0 P w K mg base ["self", "add"] "Wood.__init__" (zh s_Wood___init__) f cdv A outer s H E).nox (j5 s_Wood___init__) kf:=by
 have nd:=sc_Wood___init__.nd;exact(zg (zow T.ua8 (zf 0) (zf 1)) (zj (zow T.uan (zf 0) zo)))
theorem zcg(T:TX K mg base):Mak P w K mg base 1 "Wood" qu:=T.ua0.mk1 sc_Wood___init__ (fun _ _ _ _ _ _ _=>ls2 fun _ _=>⟨_,rfl,rfl⟩) (fun f cdv A outer s H E hr=>zac T  hr)
theorem zch(T:TX K mg base):Mak P w K mg base 1 "Wood" (zxh 1 qu):=T.ua0.mk1d sc_Wood___init__ rfl (fun _ _ _ _ _ _ _=>ls1 fun _=>⟨_,rfl,rfl⟩) (fun f cdv A outer s H E hr=>zac T  hr)
theorem sc__law_cell:FnScope ["_law_script", "_law_k", "_law_cell_here"] ["_law_script", "_law_k"] (zh s__law_cell):=.auto7
theorem sc__law_due:FnScope ["_law_many"] ["_law_many"] (zh s__law_due):=.auto7
theorem sc__law_others:FnScope ["_law_script", "_law_many", "_law_step", "_law_others_here", "_law_k", "_law_cell_here", "_law_thing"] ["_law_script", "_law_many", "_law_step"] (zh s__law_others):=.auto7
theorem sc__law_kind:FnScope ["_law_e", "_law_others_here"] ["_law_e"] (zh s__law_kind):=.auto7
theorem sc__law_less:FnScope ["_law_one", "_law_other"] ["_law_one", "_law_other"] (zh s__law_less):=.auto7
theorem sc_check_place:FnScope ["place", "end"] ["place", "end"] (zh s_check_place):=.auto7
theorem sc_size:FnScope ["make"] ["make"] (zh s_size):=.auto7
theorem sc_seen:FnScope ["make", "turned"] ["make", "turned"] (zh s_seen):=.auto7
theorem sc_thing_at:FnScope ["make", "turned", "place", "row", "middle"] ["make", "turned", "place"] (zh s_thing_at):=.auto7
theorem sc_at:FnScope ["make", "place"] ["make", "place"] (zh s_at):=.auto7
theorem sc_is_alike_at:FnScope ["make", "place", "thing", "before"] ["make", "place", "thing", "before"] (zh s_is_alike_at):=.auto7
theorem sc_count_before:FnScope ["make", "turned", "thing", "before", "row"] ["make", "turned", "thing", "before"] (zh s_count_before):=.auto7
theorem sc_place_of:FnScope ["make", "thing", "before"] ["make", "thing", "before"] (zh s_place_of):=.auto7
theorem sc_check_room:FnScope ["things"] ["things"] (zh s_check_room):=.auto7
theorem sc_Wood_numbered:FnScope ["self", "rest", "number"] ["self", "rest"] (zh s_Wood_numbered):=.auto7
theorem sc_height:FnScope ["make"] ["make"] (zh s_height):=.auto7
theorem sc_height_above:FnScope ["left", "right"] ["left", "right"] (zh s_height_above):=.auto7
theorem sc_in_balance:FnScope ["left", "right"] ["left", "right"] (zh s_in_balance):=.auto7
theorem sc_size_above:FnScope ["left", "right"] ["left", "right"] (zh s_size_above):=.auto7
theorem sc_back:FnScope ["make"] ["make"] (zh s_back):=.auto7
theorem sc_backward_sum:FnScope ["add", "left", "thing", "right", "result"] ["add", "left", "thing", "right"] (zh s_backward_sum):=.auto7
theorem sc_total:FnScope ["make"] ["make"] (zh s_total):=.auto7
theorem sc_onward_sum:FnScope ["add", "left", "thing", "right", "result"] ["add", "left", "thing", "right"] (zh s_onward_sum):=.auto7
theorem sc_sums_above:FnScope ["add", "left", "thing", "right"] ["add", "left", "thing", "right"] (zh s_sums_above):=.auto7
theorem sc_Wood_node:FnScope ["self", "left", "thing", "right", "things", "measures", "sums"] ["self", "left", "thing", "right"] (zh s_Wood_node):=.auto7
theorem sc_Wood_turned:FnScope ["self", "make", "row"] ["self", "make"] (zh s_Wood_turned):=.auto7
theorem sc_parts:FnScope ["wood", "make", "ahead", "behind"] ["wood", "make"] (zh s_parts):=.auto7
theorem sc_lifted_left:FnScope ["wood", "left", "thing", "right", "outer", "inner", "ahead", "behind"] ["wood", "left", "thing", "right"] (zh s_lifted_left):=.auto7
theorem sc_lifted_right:FnScope ["wood", "left", "thing", "right", "outer", "inner", "ahead", "behind"] ["wood", "left", "thing", "right"] (zh s_lifted_right):=.auto7
theorem sc_balanced:FnScope ["wood", "left", "thing", "right"] ["wood", "left", "thing", "right"] (zh s_balanced):=.auto7
theorem sc_put_in:FnScope ["wood", "make", "place", "thing", "row", "middle"] ["wood", "make", "place", "thing"] (zh s_put_in):=.auto7
theorem sc_put:FnScope ["wood", "make", "place", "thing"] ["wood", "make", "place", "thing"] (zh s_put):=.auto7
theorem sc_added:FnScope ["wood", "make", "thing", "before", "place"] ["wood", "make", "thing", "before"] (zh s_added):=.auto7
theorem sc_built:FnScope ["wood", "things", "start", "end", "middle", "left", "right"] ["wood", "things", "start", "end"] (zh s_built):=.auto7
theorem sc_make_of:FnScope ["wood", "things"] ["wood", "things"] (zh s_make_of):=.auto7
theorem sc_merged:FnScope ["ones", "others", "before", "found", "reached", "thing"] ["ones", "others", "before"] (zh s_merged):=.auto7
theorem sc_gather:FnScope ["make", "turned", "found", "row"] ["make", "turned", "found"] (zh s_gather):=.auto7
theorem sc_things_of:FnScope ["make", "found"] ["make"] (zh s_things_of):=.auto7
theorem sc_either:FnScope ["wood", "one", "other", "before"] ["wood", "one", "other", "before"] (zh s_either):=.auto7
theorem zm5:FnScope ["before"] ["before"] (zh s_by_key):=.auto7
theorem zoh(T:TX K mg base):Cal P w K mg base 2 "by_key" km:=T.uez.calR zm5 (fun _ _ _ _ _ _=>ls1 fun _=>rfl) rfl (fun f cdv hco A outer s H E=>⟨_,(CapsOk.mk rfl rfl (z8k.mpr ⟨rfl,(fun _ h=>nomatch h)⟩) (by decide +kernel) rfl (z8k.mpr ⟨rfl,(fun _ h=>nomatch h)⟩) (fun _ _=>rfl)),zy8 0 hco T.blt rfl⟩)
theorem sc_given:FnScope ["wood", "make", "place", "thing", "row", "middle"] ["wood", "make", "place", "thing"] (zh s_given):=.auto7
theorem sc_swapped:FnScope ["wood", "make", "place", "thing"] ["wood", "make", "place", "thing"] (zh s_swapped):=.auto7
theorem sc_with_value:FnScope ["wood", "make", "key", "value", "before", "pair", "order", "place"] ["wood", "make", "key", "value", "before"] (zh s_with_value):=.auto7
theorem sc__law_told:FnScope ["_law_word", "_law_wood", "_law_one", "_law_other", "_law_heard", "_law_e"] ["_law_word", "_law_wood", "_law_one", "_law_other"] (zh s__law_told):=.auto7
theorem sc_has:FnScope ["make", "thing", "before"] ["make", "thing", "before"] (zh s_has):=.auto7
theorem sc_common:FnScope ["wood", "one", "other", "before"] ["wood", "one", "other", "before"] (zh s_common):=.auto7
theorem sc_less:FnScope ["wood", "one", "other", "before"] ["wood", "one", "other", "before"] (zh s_less):=.auto7
theorem sc_place_of_alike:FnScope ["make", "thing", "before", "place"] ["make", "thing", "before"] (zh s_place_of_alike):=.auto7
theorem sc_sought:FnScope ["key"] ["key"] (zh s_sought):=.auto7
theorem sc_value_of:FnScope ["make", "key", "before"] ["make", "key", "before"] (zh s_value_of):=.auto7
theorem sc_law:FnScope ["_law_script", "_law_many", "_law_step", "_law_things", "_law_others_here", "_law_some", "_law_wood", "_law_one", "_law_other", "_law_fresh", "_law_first", "_law_second", "_law_there", "_law_table"] ["_law_script"] (zh s_law):=.auto7
structure CX_law (P:Program) (w:World) (K:zFr) (mg:zMg) (base:Heap):Prop where
 mk ::
 uao:Mak P w K mg base 1 "Wood" (zxh 1 qu)
 uag:Cal P w K mg base 1 "_law_cell" z5
 uar:Cal P w K mg base 1 "_law_due" jd
 uaw:Cal P w K mg base 2 "_law_others" x4
 ual:Cal P w K mg base 50 "_law_told" z9
 ubi:Cal P w K mg base 47 "common" zbs
 ua6:Cal P w K mg base 47 "either" yn
 uc3:Cal P w K mg base 47 "less" zg4
 uak:Cal P w K mg base 46 "make_of" qw
 uae:Cal P w K mg base 43 "things_of" z8
 ua5:Cal P w K mg base 46 "value_of" yd
 uaq:Cal P w K mg base 49 "with_value" jh
theorem z3r(T:TX K mg base)(C:CX_law P w K mg base)(hr:Room 50 (A.deeper (envOfC "law" (zh s_law) s.heap.objs.size f cdv))) :
   FSs (zca CX0 P w K mg base ["_law_script", "_law_many", "_law_step", "_law_things", "_law_others_here", "_law_some", "_law_wood", "_law_one", "_law_other", "_law_fresh", "_law_first", "_law_second", "_law_there", "_law_table"] "law" (zh s_law) f cdv A outer s H E).nox (j5 s_law) z1a:=by
 have nd:=sc_law.nd;exact(zg (zq 1 (xq (ze C.uag hr.rmd (zb (zf 0) (zb zo zd))) zo) nd) (zg (qt (zfu hr (xq (zdy (ze C.uag hr.rmd (zb (zf 0) (zb zo zd))) zo) zo) zo) (zj (zq 1 (zbv zo (zx (zkh (zb zo (zb zo (zb zo (zb zo (zb zo zd)))))) (xq (ze C.uag hr.rmd (zb (zf 0) (zb zo zd))) zo))) nd)) zv) (zg (zq 2 (qq zo (xq (ze C.uag hr.rmd (zb (zf 0) (zb zo zd))) zo)) nd) (zg (by exact z3g 3 (ke (x:="_law_k") (N':=["_law_step"]) (fr:=[2]) (by decide +kernel) rfl rfl rfl rfl rfl) (z2j T.ub2 (zf 1)) (fun _ _ _ _=>.nil) (fun _ _ _ _=>(zab (zf 1) (zf 0))) nd) (zg (zq 4 (ze C.uaw hr.rmd (zb (zf 0) (zb (zf 1) (zb (zf 2) zd)))) nd) (zg (zq 5 (zkg T.udd (zr0 T.ugh (zf 4))) nd) (zg (zq 6 (zrz C.uao hr.rmd) nd) (zg (zq 7 (ze C.uak hr.rmd (zb (zf 6) (zb (zf 3) zd))) nd) (zg (zq 8 (ze C.uak hr.rmd (zb (zf 6) (zb (zf 5) zd))) nd) (zg (zq 9 (by exact zlr (ke (x:="_law_thing") (N':=["_law_many", "_law_step"]) (fr:=[1,2]) (by decide +kernel) rfl rfl rfl rfl rfl) (zk5 (zf 5)) (fun _ _ _ _=>.one (zxe (zzy (zg8 hr (xq (zf 0) (zf 2)) zo) (zts (zo7 T.ub2 (zdy (zf 0) (zf 2)) (zf 1)))))) (fun _ _ _ _=>(zf 0))) nd) (zg (zrx [10,11] (zen 10 nd (zen 11 nd Names.nil)) (zkh (zb (xf (zb (zf 7) (zb (zf 8) zd))) (zb (xf (zb (zf 8) (zb (zf 7) zd))) zd))) (zj (qt (zg8 hr (ze C.ual hr.rmd (zb zax (zb (zf 6) (zb (zf 10) (zb (zf 11) zd))))) (ze C.uar hr.rmd (zb (qq (zf 1) (zay T.uau (zb (zf 9) zd))) zd))) (zj (zp yq)) zv)) qam) (zg (qt (zg8 hr (ze C.uae hr.rmd (zb (ze C.ubi hr.rmd (zb (zf 6) (zb (zf 7) (zb (zf 8) (zb (kg T.uac.val) zd))))) zd)) (by exact zlr (ke (x:="_law_thing") (N':=["_law_fresh"]) (fr:=[9]) (by decide +kernel) rfl rfl rfl rfl rfl) (zk5 (zf 5)) (fun _ _ _ _=>.one (zo8 (zf 0) (zf 1))) (fun _ _ _ _=>(zf 0)))) (zj (zp yq)) zv) (zg (qt (zg8 hr (ze C.uae hr.rmd (zb (ze C.uc3 hr.rmd (zb (zf 6) (zb (zf 7) (zb (zf 8) (zb (kg T.uac.val) zd))))) zd)) (by exact zlr (ke (x:="_law_thing") (N':=["_law_others_here"]) (fr:=[4]) (by decide +kernel) rfl rfl rfl rfl rfl) (zk5 (zf 3)) (fun _ _ _ _=>.one (zr3 hr (zf 0) (zf 1))) (fun _ _ _ _=>(zf 0)))) (zj (zp yq)) zv) (zg (qt (zxe (zkd (zls (qq (zf 1) (zay T.uau (zb (zf 9) zd))) zo) (zfs (zg8 hr (ze C.uae hr.rmd (zb (ze C.ua6 hr.rmd (zb (zf 6) (zb (zf 7) (zb (zf 8) (zb (kg T.uac.val) zd))))) zd)) (zkg T.udd (qq (zf 3) (zf 9))))))) (zj (zp yq)) zv) (zg (qt (zg8 hr (ze C.ual hr.rmd (zb zax (zb (zf 6) (zb (zf 7) (zb (ztx zo) zd))))) (ze C.uar hr.rmd (zb (qq (zf 1) zo) zd))) (zj (zp yq)) zv) (zg (qt (zxe (zzy (zfu hr (zf 1) zo) (zts (zfu hr (xq (ze C.uag hr.rmd (zb (zf 0) (zb zo zd))) zo) zo)))) (zj (zp yq)) zv) (zg (zq 12 (zx (zf 3) (xq (ze C.uag hr.rmd (zb (zf 0) (zb zo zd))) (zf 1))) nd) (zg (qt (zg8 hr (ze C.ual hr.rmd (zb zax (zb (zf 6) (zb (zf 7) (zb (zf 12) zd))))) (zf 1)) (zj (zp yq)) zv) (zg (zq 13 (ze C.uak hr.rmd (zb (zf 6) (zb (by exact zlr (ke (x:="_law_thing") (N':=[]) (fr:=[]) (by decide +kernel) rfl rfl rfl rfl rfl) (zk5 (zf 3)) (fun _ _ _ _=>.nil) (fun _ _ _ _=>(xf (zb (zf 0) (zb zo zd))))) zd))) nd) (zg (qt (zg8 hr (ze C.ual hr.rmd (zb zax (zb (zf 6) (zb (zf 13) (zb (ztx zo) zd))))) (ze C.uar hr.rmd (zb (qq (zf 1) zo) zd))) (zj (zp yq)) zv) (zj (zp (z3k hr (ze C.ua5 hr.rmd (zb (ze C.uaq hr.rmd (zb (zf 6) (zb (zf 13) (zb (zf 12) (zb zo (zb (kg T.uac.val) zd)))))) (zb (zf 12) (zb (kg T.uac.val) zd)))) zo)))))))))))))))))))))))
theorem law_fn{P:Program}{w:World}{K:zFr}{mg:zMg}(T0:HasDef K mg "law" s_law 0)(C:∀base,zqc base mg->TX K mg base/\CX_law P w K mg base):∃fa fd,mg "law"=some (.ref fa)/\(∀(s:Shared) (v:Value),BindsTo s fd ⟨[v],[]⟩ [("_law_script",v)])/\∀base,zqc base mg->FnOk P w K mg base CX0 51 fa fd ["_law_script"] (spG K mg g_law):=by obtain⟨f,fd,dV,F,hm,rfl⟩:=T0.ex;have B:=F.binds0 (ps:=["_law_script"]) (fun _ _ _ _ _ _=>ls1 fun _=>rfl);refine⟨f,fd,hm,?_,fun base hB=>F.ok sc_law fun cdv A outer s H E hr=>z3r (C base hB).1 (C base hB).2 hr⟩;obtain⟨oc,od,kV,doc,pm,an,cdv,ct,osl,rfl,lk,hcd⟩:=F.ex;exact fun s v=>.of_eq rfl
theorem law_all{P:Program}{w:World}{K:zFr}{mg:zMg}(T:∀base,zqc base mg->TX K mg base)(T0:HasDef K mg "law" s_law 0):∃fa fd,mg "law"=some (.ref fa)/\(∀(s:Shared) (v:Value),BindsTo s fd ⟨[v],[]⟩ [("_law_script",v)])/\∀base,zqc base mg->FnOk P w K mg base CX0 51 fa fd ["_law_script"] (spG K mg g_law):=by
 refine law_fn T0 fun base hB=>?_;have T:=T base hB;have ufm:=zcg (P:=P) (w:=w) (base:=base) T ;have uao:=zch (P:=P) (w:=w) (base:=base) T ;have uag:Cal P w K mg base 1 "_law_cell" z5:=(T.udp.cal sc__law_cell (fun _ _ _ _ _ _=>ls2 fun _ _=>rfl) (fun f cdv A outer s H E hr=>by as_aux_lemma=>
   have nd:=sc__law_cell.nd;exact(zg (zq 2 (qq (zab (zab (zf 1) (zf 1)) zo) zo) nd) (zg (qt (zg9 (zay T.uau (zb (zf 0) zd)) zo) (zj (zq 2 (qq (xq (zx (zf 0) (xq (zf 1) (zay T.uau (zb (zf 0) zd)))) (zz8 zo zo)) (zab (zdy (zf 1) (zay T.uau (zb (zf 0) zd))) zo)) nd)) zv) (zj (zp (xq (zab (xq (qq (zab (zf 2) zo) (zab (zf 1) zo)) zo) (qq (xq (zf 2) zo) zo)) zo)))))))
 have uar:Cal P w K mg base 1 "_law_due" jd:=(T.ud7.cal sc__law_due (fun _ _ _ _ _ _=>ls1 fun _=>rfl) (fun f cdv A outer s H E hr=>by as_aux_lemma=>
   have nd:=sc__law_due.nd;exact(zg (qt (zg9 (zf 0) zo) (zj (zp (zkh (zb yq (zb yq (zb yq zd)))))) zv) (zj (zp (zf 0)))))).frz
 have uaw:Cal P w K mg base 2 "_law_others" x4:=(T.uci.cal sc__law_others (fun _ _ _ _ _ _=>ls3 fun _ _ _=>rfl) (fun f cdv A outer s H E hr=>by as_aux_lemma=>
   have nd:=sc__law_others.nd;exact(zg (zq 3 zwm nd) (zg (zwf 4 nd T.ub2 (qq zo (xq (ze uag hr.rmd (zb (zf 0) (zb zo zd))) zo)) (zg (zq 5 (ze uag hr.rmd (zb (zf 0) (zb (qq zo (zf 4)) zd))) nd) (zj (qt (zxe (zkd (zls (xq (zf 5) zo) zo) (zfs (zg9 (zf 1) zo)))) (zj (zke hr (zf 3) (zab (zf 2) (xq (zdy (zf 5) zo) (zf 1))) yq)) (zg (zq 6 (zab (zf 2) (xq (zdy (zf 5) zo) (qq (zf 1) zo))) nd) (zj (zke hr (zf 3) (zbv (zf 6) (zab (xq (zdy (zf 5) zo) zo) (qq (zab (zf 2) zo) zo))) yq)))))) qam) (zj (zp (zf 3)))))))
 have udh:CalH P w K mg base 1 "_law_kind" za6:=(T.udl.calH sc__law_kind (fun _ _ _ _ _ _=>ls1 fun _=>rfl) (fun f cdv A outer s H E hr=>by as_aux_lemma=>
   have nd:=sc__law_kind.nd;exact(zg (zq 1 (zo5 T.up T.uay (zb (zf 0) (zb (xf (zb (kg T.uee) (zb (kg T.uds) (zb (kg T.uew) (zb (kg T.ue7) (zb (kg T.ud6) (zb (kg T.uea) (zb (kg T.ufy) (zb (kg T.ufw) (zb (kg T.uf0) (zb (kg T.ueq) zd))))))))))) zd))) nd) (zj (zp (zkh (zb (zo5 T.up T.uay (zb (zf 0) (zb (kg T.uep) zd))) (zb (zo5 T.up T.uay (zb (zf 0) (zb (z0e "ValueError" T.ucv F.boot_ValueError) zd))) (zb (zf 1) zd))))))))).frz
 have udt:Cal P w K mg base 1 "_law_less" yo:=(T.uac.cal sc__law_less (fun _ _ _ _ _ _=>ls2 fun _ _=>rfl) (fun f cdv A outer s H E hr=>by as_aux_lemma=>
   have nd:=sc__law_less.nd;exact(zj (zp (z0b (zf 0) (zf 1))))))
 have uap:Cal P w K mg base 1 "check_place" jl:=(T.uch.cal sc_check_place (fun _ _ _ _ _ _=>ls2 fun _ _=>rfl) (fun f cdv A outer s H E hr=>by as_aux_lemma=>
   have nd:=sc_check_place.nd;exact(zj (qt (zev (zwp zo (zf 0) (zf 1))) (zj zcw) zv))))
 have uaf:Cal P w K mg base 1 "size" jz:=(T.uf8.cal sc_size (fun _ _ _ _ _ _=>ls1 fun _=>rfl) (fun f cdv A outer s H E hr=>by as_aux_lemma=>
   have nd:=sc_size.nd;exact(zg (qt (zft (zf 0) jw) (zj (zp zo)) zv) (zj (zp (zx (zf 0) (zy T.uf7)))))))
 have uc8:Cal P w K mg base 1 "seen" zg3:=(T.uga.cal sc_seen (fun _ _ _ _ _ _=>ls2 fun _ _=>rfl) (fun f cdv A outer s H E hr=>by as_aux_lemma=>
   have nd:=sc_seen.nd;exact(zg (qt (zfu hr (zx (zf 0) (zy T.ubz)) (zf 1)) (zj (zp (xf (zb (zx (zf 0) (zy T.uba)) (zb (zx (zf 0) (zy T.ua4)) (zb (zx (zf 0) (zy T.ua2)) (zb yq zd))))))) zv) (zj (zp (xf (zb (zx (zf 0) (zy T.ua2)) (zb (zx (zf 0) (zy T.ua4)) (zb (zx (zf 0) (zy T.uba)) (zb yq zd))))))))))
 have ua7:∀n:Nat,Cal P w K mg base (2+n) "thing_at" (zao n):=fun n=>by
   induction n with
   |zero=>exact T.ubo.none0 (ps:=["make", "turned", "place"]) (fun _ _ _ _ _ _=>ls3 fun _ _ _=>rfl)
   | succ n hself=>exact T.ubo.cal sc_thing_at (fun _ _ _ _ _ _=>ls3 fun _ _ _=>rfl) (fun f cdv A outer s H E hr0=>by as_aux_lemma=>
     have nd:=sc_thing_at.nd;have hr:=hr0.mono (z6f 2 n);exact(zg (zq 3 (ze uc8 hr.rmd (zb (zf 0) (zb (zf 1) zd))) nd) (zg (zq 4 (ze uaf hr.rmd (zb (zx (zf 3) (zy T.uab)) zd)) nd) (zg (qt (zls (zf 2) (zf 4)) (zj (zp (ze hself hr0 (zb (zx (zf 3) (zy T.uab)) (zb (zx (zf 3) (zy T.uas)) (zb (zf 2) zd)))))) zv) (zg (qt (zg9 (zf 2) (zf 4)) (zj (zp (ze hself hr0 (zb (zx (zf 3) (zy T.uad)) (zb (zx (zf 3) (zy T.uas)) (zb (zbv (zbv (zf 2) (zf 4)) zo) zd)))))) zv) (zj (zp (zx (zf 3) (zy T.uah)))))))))
 have ua7:=ua7 40;have ugd:Cal P w K mg base 43 "at" z1y:=(T.ugm.cal sc_at (fun _ _ _ _ _ _=>ls2 fun _ _=>rfl) (fun f cdv A outer s H E hr=>by as_aux_lemma=>
   have nd:=sc_at.nd;exact(zg (kx (ze uap hr.rmd (zb (zf 1) (zb (ze uaf hr.rmd (zb (zf 0) zd)) zd)))) (zj (zp (ze ua7 hr.rmd (zb (zf 0) (zb yq (zb (zf 1) zd)))))))))
 have hlt:∀t g,zd8 t=some g->LCal P w K mg base 1 t g:=by intro t g e;unfold zd8 at e;cases e
 have hft:∀x g,ft x=some g->Cal P w K mg base 1 x g:=by
   intro x g e;unfold ft at e;split at e
   · rename_i hx;cases e;subst hx;exact udt.mono (by decide)
   cases e
 have hct1:∀t g,zlw t=some g->CCal P w K mg base 1 t g:=by intro t g e;unfold zlw at e;cases e
 have hct:∀t g,zkr t=some g->CCal P w K mg base 2 t g:=by
   intro t g e;unfold zkr at e;split at e
   · rename_i hx;cases e;subst hx;exact(z45 T hft hct1).mono (by decide)
   cases e
 have uaj:Cal P w K mg base 44 "is_alike_at" ql:=(T.ucg.cal sc_is_alike_at (fun _ _ _ _ _ _=>ls4 fun _ _ _ _=>rfl) (fun f cdv A outer s H E hr=>by as_aux_lemma=>
   have nd:=sc_is_alike_at.nd;exact(zj (zp (z0f (z0b (zf 1) (ze uaf hr.rmd (zb (zf 0) zd))) (zz9 (ztw (zbw (fun x g e=>(hft x g e).mono (by decide)) (fun t g e=>(hlt t g e).mono (by decide)) hct hr.rmd (zf 3) (zb (zf 2) (zb (ze ugd hr.rmd (zb (zf 0) (zb (zf 1) zd))) zd))))))))))
 have uat:∀n:Nat,Cal P w K mg base (3+n) "count_before" (xm n):=fun n=>by
   induction n with
   |zero=>exact T.ua3.none0 (ps:=["make", "turned", "thing", "before"]) (fun _ _ _ _ _ _=>ls4 fun _ _ _ _=>rfl)
   | succ n hself=>exact T.ua3.cal sc_count_before (fun _ _ _ _ _ _=>ls4 fun _ _ _ _=>rfl) (fun f cdv A outer s H E hr0=>by as_aux_lemma=>
     have nd:=sc_count_before.nd;have hr:=hr0.mono (z6f 3 n);exact(zg (qt (zft (zf 0) jw) (zj (zp zo)) zv) (zg (zq 4 (ze uc8 hr.rmd (zb (zf 0) (zb (zf 1) zd))) nd) (zg (qt (yf (zbw (fun x g e=>(hft x g e).mono (by decide)) (fun t g e=>(hlt t g e).mono (by decide)) hct hr.rmd (zf 3) (zb (zx (zf 4) (zy T.uah)) (zb (zf 2) zd)))) (zj (zp (qq (qq (ze uaf hr.rmd (zb (zx (zf 4) (zy T.uab)) zd)) zo) (ze hself hr0 (zb (zx (zf 4) (zy T.uad)) (zb (zx (zf 4) (zy T.uas)) (zb (zf 2) (zb (zf 3) zd)))))))) zv) (zj (zp (ze hself hr0 (zb (zx (zf 4) (zy T.uab)) (zb (zx (zf 4) (zy T.uas)) (zb (zf 2) (zb (zf 3) zd)))))))))))
 have uat:=uat 40;have uam:Cal P w K mg base 44 "place_of" jn:=(T.udx.cal sc_place_of (fun _ _ _ _ _ _=>ls3 fun _ _ _=>rfl) (fun f cdv A outer s H E hr=>by as_aux_lemma=>
   have nd:=sc_place_of.nd;exact(zj (zp (ze uat hr.rmd (zb (zf 0) (zb yq (zb (zf 1) (zb (zf 2) zd)))))))))
 have uaz:Cal P w K mg base 1 "check_room" xb:=(T.ubd.cal sc_check_room (fun _ _ _ _ _ _=>ls1 fun _=>rfl) (fun f cdv A outer s H E hr=>by as_aux_lemma=>
   have nd:=sc_check_room.nd;exact(zj (qt (zg9 (zf 0) (zy T.uav)) (zj zcw) zv))))
 have jg:RCal P w K mg base 1 "check_room" jg:=T.ubd.rcal sc_check_room (fun _ _ _ _ _ _=>ls1 fun _=>rfl) (fun f cdv A outer s H E hr=>by as_aux_lemma=>
   have nd:=sc_check_room.nd;exact(zyf (zg9 (zf 0) (zy T.uav)) (zag (zq0 T.ueh (zb (zwn (.cons zax (.cons (z0d (zy T.uav)) (.cons zax (.cons (z0d (zf 0)) FL.nil))))) zd))) zqz))
 have ua1:Mth P w K mg base 1 "Wood" "numbered" jv:=T.ubq.mth sc_Wood_numbered (fun _ _ _ _ _ _=>ls2 fun _ _=>rfl) (fun f cdv A outer s H E hr=>by as_aux_lemma=>
   have nd:=sc_Wood_numbered.nd;exact(zg (zq 2 (zty T.uan (zf 0)) nd) (zg (zow T.uan (zf 0) (qq (zf 2) zo)) (zj (zp (qq (xf (zb (zf 2) zd)) (zf 1)))))))
 have uai:Cal P w K mg base 1 "height" jq:=(T.ufi.cal sc_height (fun _ _ _ _ _ _=>ls1 fun _=>rfl) (fun f cdv A outer s H E hr=>by as_aux_lemma=>
   have nd:=sc_height.nd;exact(zg (qt (zft (zf 0) jw) (zj (zp zo)) zv) (zj (zp (zx (zf 0) (zy T.ufb)))))))
 have ubx:Cal P w K mg base 2 "height_above" xk:=(T.ub7.cal sc_height_above (fun _ _ _ _ _ _=>ls2 fun _ _=>rfl) (fun f cdv A outer s H E hr=>by as_aux_lemma=>
   have nd:=sc_height_above.nd;exact(zj (zp (qq zo (z0a T.ugk (zb (ze uai hr.rmd (zb (zf 0) zd)) (zb (ze uai hr.rmd (zb (zf 1) zd)) zd))))))))
 have ube:Cal P w K mg base 2 "in_balance" xo:=(T.udc.cal sc_in_balance (fun _ _ _ _ _ _=>ls2 fun _ _=>rfl) (fun f cdv A outer s H E hr=>by as_aux_lemma=>
   have nd:=sc_in_balance.nd;exact(zj (zp (z3j (z0g T.ugj (zb (zbv (ze uai hr.rmd (zb (zf 0) zd)) (ze uai hr.rmd (zb (zf 1) zd))) zd)) zo)))))
 have ucz:Cal P w K mg base 2 "size_above" kj:=(T.uc7.cal sc_size_above (fun _ _ _ _ _ _=>ls2 fun _ _=>rfl) (fun f cdv A outer s H E hr=>by as_aux_lemma=>
   have nd:=sc_size_above.nd;exact(zj (zp (qq (qq (ze uaf hr.rmd (zb (zf 0) zd)) zo) (ze uaf hr.rmd (zb (zf 1) zd)))))))
 have udf:Cal P w K mg base 1 "back" zdv:=(T.ugb.cal sc_back (fun _ _ _ _ _ _=>ls1 fun _=>rfl) (fun f cdv A outer s H E hr=>by as_aux_lemma=>
   have nd:=sc_back.nd;exact(zg (qt (zft (zf 0) jw) (zj (zp jw)) zv) (zj (zp (zx (zf 0) (zy T.uge)))))))
 have ub1:Cal P w K mg base 2 "backward_sum" ku:=(T.ub3.cal sc_backward_sum (fun _ _ _ _ _ _=>ls4 fun _ _ _ _=>rfl) (fun f cdv A outer s H E hr=>by as_aux_lemma=>
   have nd:=sc_backward_sum.nd;exact(zg (zq 4 (zf 2) nd) (zg (qt (zcy (zf 3) jw) (zj (zq 4 (zaq hft hlt hr.rmd (zf 0) (zb (ze udf hr.rmd (zb (zf 3) zd)) (zb (zf 4) zd))) nd)) zv) (zg (qt (zcy (zf 1) jw) (zj (zq 4 (zaq hft hlt hr.rmd (zf 0) (zb (zf 4) (zb (ze udf hr.rmd (zb (zf 1) zd)) zd))) nd)) zv) (zj (zp (zf 4))))))))
 have ubw:Cal P w K mg base 1 "total" yk:=(T.ufo.cal sc_total (fun _ _ _ _ _ _=>ls1 fun _=>rfl) (fun f cdv A outer s H E hr=>by as_aux_lemma=>
   have nd:=sc_total.nd;exact(zg (qt (zft (zf 0) jw) (zj (zp jw)) zv) (zj (zp (zx (zf 0) (zy T.uf3)))))))
 have ude:Cal P w K mg base 2 "onward_sum" zaa:=(T.uc1.cal sc_onward_sum (fun _ _ _ _ _ _=>ls4 fun _ _ _ _=>rfl) (fun f cdv A outer s H E hr=>by as_aux_lemma=>
   have nd:=sc_onward_sum.nd;exact(zg (zq 4 (zf 2) nd) (zg (qt (zcy (zf 1) jw) (zj (zq 4 (zaq hft hlt hr.rmd (zf 0) (zb (ze ubw hr.rmd (zb (zf 1) zd)) (zb (zf 4) zd))) nd)) zv) (zg (qt (zcy (zf 3) jw) (zj (zq 4 (zaq hft hlt hr.rmd (zf 0) (zb (zf 4) (zb (ze ubw hr.rmd (zb (zf 3) zd)) zd))) nd)) zv) (zj (zp (zf 4))))))))
 have uda:Cal P w K mg base 3 "sums_above" xn:=(T.uc5.cal sc_sums_above (fun _ _ _ _ _ _=>ls4 fun _ _ _ _=>rfl) (fun f cdv A outer s H E hr=>by as_aux_lemma=>
   have nd:=sc_sums_above.nd;exact(zg (qt (zft (zf 0) jw) (zj (zp (xf (zb jw (zb jw zd))))) zv) (zj (zp (xf (zb (ze ude hr.rmd (zb (zf 0) (zb (zf 1) (zb (zf 2) (zb (zf 3) zd))))) (zb (ze ub1 hr.rmd (zb (zf 0) (zb (zf 1) (zb (zf 2) (zb (zf 3) zd))))) zd))))))))
 have uaa:Mth P w K mg base 4 "Wood" "node" z6:=T.udn.mth sc_Wood_node (fun _ _ _ _ _ _=>ls4 fun _ _ _ _=>rfl) (fun f cdv A outer s H E hr=>by as_aux_lemma=>
   have nd:=sc_Wood_node.nd;exact(zg (zq 4 (ze ucz hr.rmd (zb (zf 1) (zb (zf 3) zd))) nd) (zg (kx (ze uaz hr.rmd (zb (zf 4) zd))) (zg (qt (zev (yf (ze ube hr.rmd (zb (zf 1) (zb (zf 3) zd))))) (zj zcw) zv) (zg (zq 5 (xf (zb (zf 4) (zb (ze ubx hr.rmd (zb (zf 1) (zb (zf 3) zd))) zd))) nd) (zg (zq 6 (ze uda hr.rmd (zb (zty T.ua8 (zf 0)) (zb (zf 1) (zb (zf 2) (zb (zf 3) zd))))) nd) (zj (zp (je ua1 hr.rmd (zf 0) (zb (qq (qq (xf (zb yq (zb (zf 1) (zb (zf 2) (zb (zf 3) zd))))) (zf 5)) (zf 6)) zd))))))))))
 have ua9:Mth P w K mg base 2 "Wood" "turned" qx:=T.ucq.mth sc_Wood_turned (fun _ _ _ _ _ _=>ls2 fun _ _=>rfl) (fun f cdv A outer s H E hr=>by as_aux_lemma=>
   have nd:=sc_Wood_turned.nd;exact(zg (qt (zft (zf 1) jw) (zj (zp jw)) zv) (zg (zq 2 (xf (zb (zx (zf 1) (zy T.uba)) (zb (zx (zf 1) (zy T.ua4)) (zb (zx (zf 1) (zy T.ua2)) zd)))) nd) (zj (zp (je ua1 hr.rmd (zf 0) (zb (qq (qq (xf (zb (ztw (zx (zf 1) (zy T.ubz))) zd)) (zf 2)) (xf (zb (ze uaf hr.rmd (zb (zf 1) zd)) (zb (ze uai hr.rmd (zb (zf 1) zd)) (zb (ze udf hr.rmd (zb (zf 1) zd)) (zb (ze ubw hr.rmd (zb (zf 1) zd)) zd)))))) zd)))))))
 have uax:Cal P w K mg base 3 "parts" kr:=(T.ufq.cal sc_parts (fun _ _ _ _ _ _=>ls2 fun _ _=>rfl) (fun f cdv A outer s H E hr=>by as_aux_lemma=>
   have nd:=sc_parts.nd;exact(zg (qt (zev (yf (zx (zf 1) (zy T.ubz)))) (zj (zp (xf (zb (zx (zf 1) (zy T.uba)) (zb (zx (zf 1) (zy T.ua4)) (zb (zx (zf 1) (zy T.ua2)) zd)))))) zv) (zg (zq 2 (je ua9 hr.rmd (zf 0) (zb (zx (zf 1) (zy T.ua2)) zd)) nd) (zg (zq 3 (je ua9 hr.rmd (zf 0) (zb (zx (zf 1) (zy T.uba)) zd)) nd) (zj (zp (xf (zb (zf 2) (zb (zx (zf 1) (zy T.ua4)) (zb (zf 3) zd)))))))))))
 have ucl:Cal P w K mg base 5 "lifted_left" ym:=(T.ucn.cal sc_lifted_left (fun _ _ _ _ _ _=>ls4 fun _ _ _ _=>rfl) (fun f cdv A outer s H E hr=>by as_aux_lemma=>
   have nd:=sc_lifted_left.nd;exact(zg (zq 4 (ze uax hr.rmd (zb (zf 0) (zb (zf 1) zd))) nd) (zg (qt (z0j (ze uai hr.rmd (zb (zx (zf 4) (zy T.uab)) zd)) (ze uai hr.rmd (zb (zx (zf 4) (zy T.uad)) zd))) (zj (zp (je uaa hr.rmd (zf 0) (zb (zx (zf 4) (zy T.uab)) (zb (zx (zf 4) (zy T.uah)) (zb (je uaa hr.rmd (zf 0) (zb (zx (zf 4) (zy T.uad)) (zb (zf 2) (zb (zf 3) zd)))) zd)))))) zv) (zg (zq 5 (ze uax hr.rmd (zb (zf 0) (zb (zx (zf 4) (zy T.uad)) zd))) nd) (zg (zq 6 (je uaa hr.rmd (zf 0) (zb (zx (zf 4) (zy T.uab)) (zb (zx (zf 4) (zy T.uah)) (zb (zx (zf 5) (zy T.uab)) zd)))) nd) (zg (zq 7 (je uaa hr.rmd (zf 0) (zb (zx (zf 5) (zy T.uad)) (zb (zf 2) (zb (zf 3) zd)))) nd) (zj (zp (je uaa hr.rmd (zf 0) (zb (zf 6) (zb (zx (zf 5) (zy T.uah)) (zb (zf 7) zd)))))))))))))
 have ubv:Cal P w K mg base 5 "lifted_right" kt:=(T.ucb.cal sc_lifted_right (fun _ _ _ _ _ _=>ls4 fun _ _ _ _=>rfl) (fun f cdv A outer s H E hr=>by as_aux_lemma=>
   have nd:=sc_lifted_right.nd;exact(zg (zq 4 (ze uax hr.rmd (zb (zf 0) (zb (zf 3) zd))) nd) (zg (qt (z0j (ze uai hr.rmd (zb (zx (zf 4) (zy T.uad)) zd)) (ze uai hr.rmd (zb (zx (zf 4) (zy T.uab)) zd))) (zj (zp (je uaa hr.rmd (zf 0) (zb (je uaa hr.rmd (zf 0) (zb (zf 1) (zb (zf 2) (zb (zx (zf 4) (zy T.uab)) zd)))) (zb (zx (zf 4) (zy T.uah)) (zb (zx (zf 4) (zy T.uad)) zd)))))) zv) (zg (zq 5 (ze uax hr.rmd (zb (zf 0) (zb (zx (zf 4) (zy T.uab)) zd))) nd) (zg (zq 6 (je uaa hr.rmd (zf 0) (zb (zf 1) (zb (zf 2) (zb (zx (zf 5) (zy T.uab)) zd)))) nd) (zg (zq 7 (je uaa hr.rmd (zf 0) (zb (zx (zf 5) (zy T.uad)) (zb (zx (zf 4) (zy T.uah)) (zb (zx (zf 4) (zy T.uad)) zd)))) nd) (zj (zp (je uaa hr.rmd (zf 0) (zb (zf 6) (zb (zx (zf 5) (zy T.uah)) (zb (zf 7) zd)))))))))))))
 have ubs:Cal P w K mg base 6 "balanced" zap:=(T.ud2.cal sc_balanced (fun _ _ _ _ _ _=>ls4 fun _ _ _ _=>rfl) (fun f cdv A outer s H E hr=>by as_aux_lemma=>
   have nd:=sc_balanced.nd;exact(zg (qt (yf (ze ube hr.rmd (zb (zf 1) (zb (zf 3) zd)))) (zj (zp (je uaa hr.rmd (zf 0) (zb (zf 1) (zb (zf 2) (zb (zf 3) zd)))))) zv) (zg (qt (zg9 (ze uai hr.rmd (zb (zf 1) zd)) (ze uai hr.rmd (zb (zf 3) zd))) (zj (zp (ze ucl hr.rmd (zb (zf 0) (zb (zf 1) (zb (zf 2) (zb (zf 3) zd))))))) zv) (zj (zp (ze ubv hr.rmd (zb (zf 0) (zb (zf 1) (zb (zf 2) (zb (zf 3) zd)))))))))))
 have ubm:∀n:Nat,Cal P w K mg base (7+n) "put_in" (zcu n):=fun n=>by
   induction n with
   |zero=>exact T.uct.none0 (ps:=["wood", "make", "place", "thing"]) (fun _ _ _ _ _ _=>ls4 fun _ _ _ _=>rfl)
   | succ n hself=>exact T.uct.cal sc_put_in (fun _ _ _ _ _ _=>ls4 fun _ _ _ _=>rfl) (fun f cdv A outer s H E hr0=>by as_aux_lemma=>
     have nd:=sc_put_in.nd;have hr:=hr0.mono (z6f 7 n);exact(zg (qt (zft (zf 1) jw) (zj (zp (je uaa hr.rmd (zf 0) (zb jw (zb (zf 3) (zb jw zd)))))) zv) (zg (zq 4 (ze uax hr.rmd (zb (zf 0) (zb (zf 1) zd))) nd) (zg (zq 5 (ze uaf hr.rmd (zb (zx (zf 4) (zy T.uab)) zd)) nd) (zg (qt (z3m (zf 2) (zf 5)) (zj (zp (ze ubs hr.rmd (zb (zf 0) (zb (ze hself hr0 (zb (zf 0) (zb (zx (zf 4) (zy T.uab)) (zb (zf 2) (zb (zf 3) zd))))) (zb (zx (zf 4) (zy T.uah)) (zb (zx (zf 4) (zy T.uad)) zd))))))) zv) (zj (zp (ze ubs hr.rmd (zb (zf 0) (zb (zx (zf 4) (zy T.uab)) (zb (zx (zf 4) (zy T.uah)) (zb (ze hself hr0 (zb (zf 0) (zb (zx (zf 4) (zy T.uad)) (zb (zbv (zbv (zf 2) (zf 5)) zo) (zb (zf 3) zd))))) zd))))))))))))
 have ubm:=ubm 40;have ufl:Cal P w K mg base 48 "put" zlp:=(T.ufn.cal sc_put (fun _ _ _ _ _ _=>ls4 fun _ _ _ _=>rfl) (fun f cdv A outer s H E hr=>by as_aux_lemma=>
   have nd:=sc_put.nd;exact(zg (kx (ze uap hr.rmd (zb (zf 2) (zb (qq (ze uaf hr.rmd (zb (zf 1) zd)) zo) zd)))) (zg (kx (ze uaz hr.rmd (zb (qq (ze uaf hr.rmd (zb (zf 1) zd)) zo) zd))) (zj (zp (ze ubm hr.rmd (zb (zf 0) (zb (zf 1) (zb (zf 2) (zb (zf 3) zd)))))))))))
 have zgp:RCal P w K mg base 48 "put" zgp:=T.ufn.rcal sc_put (fun _ _ _ _ _ _=>ls4 fun _ _ _ _=>rfl) (fun f cdv A outer s H E hr=>by as_aux_lemma=>
   have nd:=sc_put.nd;exact(yj (kx (ze uap hr.rmd (zb (zf 2) (zb (qq (ze uaf hr.rmd (zb (zf 1) zd)) zo) zd)))) (zag (zna (y6 jg hr.rmd (zb (qq (ze uaf hr.rmd (zb (zf 1) zd)) zo) zd))))))
 have ufs:Cal P w K mg base 49 "added" zdw:=(T.udw.cal sc_added (fun _ _ _ _ _ _=>ls4 fun _ _ _ _=>rfl) (fun f cdv A outer s H E hr=>by as_aux_lemma=>
   have nd:=sc_added.nd;exact(zg (zq 4 (ze uam hr.rmd (zb (zf 1) (zb (zf 2) (zb (zf 3) zd)))) nd) (zg (qt (yf (ze uaj hr.rmd (zb (zf 1) (zb (zf 4) (zb (zf 2) (zb (zf 3) zd)))))) (zj (zp (zf 1))) zv) (zj (zp (ze ufl hr.rmd (zb (zf 0) (zb (zf 1) (zb (zf 4) (zb (zf 2) zd)))))))))))
 have zb1:RCal P w K mg base 49 "added" zb1:=T.udw.rcal sc_added (fun _ _ _ _ _ _=>ls4 fun _ _ _ _=>rfl) (fun f cdv A outer s H E hr=>by as_aux_lemma=>
   have nd:=sc_added.nd;exact(yj (zq 4 (ze uam hr.rmd (zb (zf 1) (zb (zf 2) (zb (zf 3) zd)))) nd) (yj (qt (yf (ze uaj hr.rmd (zb (zf 1) (zb (zf 4) (zb (zf 2) (zb (zf 3) zd)))))) (zj (zp (zf 1))) zv) (zag (zm9 (y6 zgp hr.rmd (zb (zf 0) (zb (zf 1) (zb (zf 4) (zb (zf 2) zd))))))))))
 have ub5:∀n:Nat,Cal P w K mg base (5+n) "built" (zfr n):=fun n=>by
   induction n with
   |zero=>exact T.udu.none0 (ps:=["wood", "things", "start", "end"]) (fun _ _ _ _ _ _=>ls4 fun _ _ _ _=>rfl)
   | succ n hself=>exact T.udu.cal sc_built (fun _ _ _ _ _ _=>ls4 fun _ _ _ _=>rfl) (fun f cdv A outer s H E hr0=>by as_aux_lemma=>
     have nd:=sc_built.nd;have hr:=hr0.mono (z6f 5 n);exact(zg (qt (zfu hr (zf 2) (zf 3)) (zj (zp jw)) zv) (zg (zq 4 (zdy (qq (zf 2) (zf 3)) zo) nd) (zg (zq 5 (ze hself hr0 (zb (zf 0) (zb (zf 1) (zb (zf 2) (zb (zf 4) zd))))) nd) (zg (zq 6 (ze hself hr0 (zb (zf 0) (zb (zf 1) (zb (qq (zf 4) zo) (zb (zf 3) zd))))) nd) (zj (zp (je uaa hr.rmd (zf 0) (zb (zf 5) (zb (zx (zf 1) (zf 4)) (zb (zf 6) zd)))))))))))
 have ub5:=ub5 40;have uak:Cal P w K mg base 46 "make_of" qw:=(T.uce.cal sc_make_of (fun _ _ _ _ _ _=>ls2 fun _ _=>rfl) (fun f cdv A outer s H E hr=>by as_aux_lemma=>
   have nd:=sc_make_of.nd;exact(zg (kx (ze uaz hr.rmd (zb (zay T.uau (zb (zf 1) zd)) zd))) (zj (zp (ze ub5 hr.rmd (zb (zf 0) (zb (zf 1) (zb zo (zb (zay T.uau (zb (zf 1) zd)) zd))))))))))
 have k9:RCal P w K mg base 46 "make_of" k9:=T.uce.rcal sc_make_of (fun _ _ _ _ _ _=>ls2 fun _ _=>rfl) (fun f cdv A outer s H E hr=>by as_aux_lemma=>
   have nd:=sc_make_of.nd;exact(zag (zna (y6 jg hr.rmd (zb (zay T.uau (zb (zf 1) zd)) zd)))))
 have uc9:Cal P w K mg base 3 "merged" zbr:=(T.ufc.cal sc_merged (fun _ _ _ _ _ _=>ls3 fun _ _ _=>rfl) (fun f cdv A outer s H E hr=>by as_aux_lemma=>
   have nd:=sc_merged.nd;exact(zg (zq 3 (zo4 zd) nd) (zg (zq 4 zo nd) (zg (zwg 5 nd (zf 0) (zg (zrw 5000 (zxe (zkd (zls (zf 4) (zay T.uau (zb (zf 1) zd))) (zfs (yf (zbw (fun x g e=>(hft x g e).mono (by decide)) (fun t g e=>(hlt t g e).mono (by decide)) hct hr.rmd (zf 2) (zb (zx (zf 1) (zf 4)) (zb (zf 5) zd))))))) (zg (zdx (zf 3) (zx (zf 1) (zf 4))) (zj (zq 4 (qq (zf 4) zo) nd))) qam) (zg (zdx (zf 3) (zf 5)) (zj (qt (zxe (zkd (zls (zf 4) (zay T.uau (zb (zf 1) zd))) (zfs (zev (yf (zbw (fun x g e=>(hft x g e).mono (by decide)) (fun t g e=>(hlt t g e).mono (by decide)) hct hr.rmd (zf 2) (zb (zf 5) (zb (zx (zf 1) (zf 4)) zd)))))))) (zj (zq 4 (qq (zf 4) zo) nd)) zv)))) qam) (zj (zp (zwo (zf 3) (zry (zf 1) (zwh (zf 4)) zwi))))))))).frz
 have ubh:∀n:Nat,Cal P w K mg base (2+n) "gather" (zcv n):=fun n=>by
   induction n with
   |zero=>exact T.ucu.none0 (ps:=["make", "turned", "found"]) (fun _ _ _ _ _ _=>ls3 fun _ _ _=>rfl)
   | succ n hself=>exact T.ucu.cal sc_gather (fun _ _ _ _ _ _=>ls3 fun _ _ _=>rfl) (fun f cdv A outer s H E hr0=>by as_aux_lemma=>
     have nd:=sc_gather.nd;have hr:=hr0.mono (z6f 2 n);exact(zg (qt (zft (zf 0) jw) (zj zwe) zv) (zg (zq 3 (ze uc8 hr.rmd (zb (zf 0) (zb (zf 1) zd))) nd) (zg (kx (ze hself hr0 (zb (zx (zf 3) (zy T.uab)) (zb (zx (zf 3) (zy T.uas)) (zb (zf 2) zd))))) (zg (zdx (zf 2) (zx (zf 3) (zy T.uah))) (zj (kx (ze hself hr0 (zb (zx (zf 3) (zy T.uad)) (zb (zx (zf 3) (zy T.uas)) (zb (zf 2) zd)))))))))))
 have ubh:=ubh 40;have uae:Cal P w K mg base 43 "things_of" z8:=(T.udq.cal sc_things_of (fun _ _ _ _ _ _=>ls1 fun _=>rfl) (fun f cdv A outer s H E hr=>by as_aux_lemma=>
   have nd:=sc_things_of.nd;exact(zg (zq 1 (zo4 zd) nd) (zg (kx (ze ubh hr.rmd (zb (zf 0) (zb yq (zb (zf 1) zd))))) (zj (zp (zf 1))))))).frz
 have ua6:Cal P w K mg base 47 "either" yn:=(T.ucw.cal sc_either (fun _ _ _ _ _ _=>ls4 fun _ _ _ _=>rfl) (fun f cdv A outer s H E hr=>by as_aux_lemma=>
   have nd:=sc_either.nd;exact(zj (zp (ze uak hr.rmd (zb (zf 0) (zb (ze uc9 hr.rmd (zb (ze uae hr.rmd (zb (zf 1) zd)) (zb (ze uae hr.rmd (zb (zf 2) zd)) (zb (zf 3) zd)))) zd)))))))
 have zah:RCal P w K mg base 47 "either" zah:=T.ucw.rcal sc_either (fun _ _ _ _ _ _=>ls4 fun _ _ _ _=>rfl) (fun f cdv A outer s H E hr=>by as_aux_lemma=>
   have nd:=sc_either.nd;exact(zag (zm9 (y6 k9 hr.rmd (zb (zf 0) (zb (ze uc9 hr.rmd (zb (ze uae hr.rmd (zb (zf 1) zd)) (zb (ze uae hr.rmd (zb (zf 2) zd)) (zb (zf 3) zd)))) zd))))))
 have ubg:=zoh (P:=P) (w:=w) (base:=base) T ;have uby:∀n:Nat,Cal P w K mg base (5+n) "given" (zfq n):=fun n=>by
   induction n with
   |zero=>exact T.udv.none0 (ps:=["wood", "make", "place", "thing"]) (fun _ _ _ _ _ _=>ls4 fun _ _ _ _=>rfl)
   | succ n hself=>exact T.udv.cal sc_given (fun _ _ _ _ _ _=>ls4 fun _ _ _ _=>rfl) (fun f cdv A outer s H E hr0=>by as_aux_lemma=>
     have nd:=sc_given.nd;have hr:=hr0.mono (z6f 5 n);exact(zg (zq 4 (ze uax hr.rmd (zb (zf 0) (zb (zf 1) zd))) nd) (zg (zq 5 (ze uaf hr.rmd (zb (zx (zf 4) (zy T.uab)) zd)) nd) (zg (qt (zls (zf 2) (zf 5)) (zj (zp (je uaa hr.rmd (zf 0) (zb (ze hself hr0 (zb (zf 0) (zb (zx (zf 4) (zy T.uab)) (zb (zf 2) (zb (zf 3) zd))))) (zb (zx (zf 4) (zy T.uah)) (zb (zx (zf 4) (zy T.uad)) zd)))))) zv) (zg (qt (zg9 (zf 2) (zf 5)) (zj (zp (je uaa hr.rmd (zf 0) (zb (zx (zf 4) (zy T.uab)) (zb (zx (zf 4) (zy T.uah)) (zb (ze hself hr0 (zb (zf 0) (zb (zx (zf 4) (zy T.uad)) (zb (zbv (zbv (zf 2) (zf 5)) zo) (zb (zf 3) zd))))) zd)))))) zv) (zj (zp (je uaa hr.rmd (zf 0) (zb (zx (zf 4) (zy T.uab)) (zb (zf 3) (zb (zx (zf 4) (zy T.uad)) zd)))))))))))
 have uby:=uby 40;have ucd:Cal P w K mg base 46 "swapped" zbq:=(T.uek.cal sc_swapped (fun _ _ _ _ _ _=>ls4 fun _ _ _ _=>rfl) (fun f cdv A outer s H E hr=>by as_aux_lemma=>
   have nd:=sc_swapped.nd;exact(zg (kx (ze uap hr.rmd (zb (zf 2) (zb (ze uaf hr.rmd (zb (zf 1) zd)) zd)))) (zj (zp (ze uby hr.rmd (zb (zf 0) (zb (zf 1) (zb (zf 2) (zb (zf 3) zd))))))))))
 have uaq:Cal P w K mg base 49 "with_value" jh:=(T.ubb.cal sc_with_value (fun _ _ _ _ _ _=>ls5 fun _ _ _ _ _=>rfl) (fun f cdv A outer s H E hr=>by as_aux_lemma=>
   have nd:=sc_with_value.nd;exact(zg (zq 5 (xf (zb (zf 2) (zb (zf 3) zd))) nd) (zg (zq 6 (ze ubg hr.rmd (zb (zf 4) zd)) nd) (zg (zq 7 (ze uam hr.rmd (zb (zf 1) (zb (zf 5) (zb (zf 6) zd)))) nd) (zg (qt (yf (ze uaj hr.rmd (zb (zf 1) (zb (zf 7) (zb (zf 5) (zb (zf 6) zd)))))) (zj (zp (ze ucd hr.rmd (zb (zf 0) (zb (zf 1) (zb (zf 7) (zb (zf 5) zd))))))) zv) (zj (zp (ze ufl hr.rmd (zb (zf 0) (zb (zf 1) (zb (zf 7) (zb (zf 5) zd)))))))))))))
 have xa:RCal P w K mg base 49 "with_value" xa:=T.ubb.rcal sc_with_value (fun _ _ _ _ _ _=>ls5 fun _ _ _ _ _=>rfl) (fun f cdv A outer s H E hr=>by as_aux_lemma=>
   have nd:=sc_with_value.nd;exact(yj (zq 5 (xf (zb (zf 2) (zb (zf 3) zd))) nd) (yj (zq 6 (ze ubg hr.rmd (zb (zf 4) zd)) nd) (yj (zq 7 (ze uam hr.rmd (zb (zf 1) (zb (zf 5) (zb (zf 6) zd)))) nd) (yj (qt (yf (ze uaj hr.rmd (zb (zf 1) (zb (zf 7) (zb (zf 5) (zb (zf 6) zd)))))) (zj (zp (ze ucd hr.rmd (zb (zf 0) (zb (zf 1) (zb (zf 7) (zb (zf 5) zd))))))) zv) (zag (zm9 (y6 zgp hr.rmd (zb (zf 0) (zb (zf 1) (zb (zf 7) (zb (zf 5) zd))))))))))))
 have ual:Cal P w K mg base 50 "_law_told" z9:=(T.udk.cal sc__law_told (fun _ _ _ _ _ _=>ls4 fun _ _ _ _=>rfl) (fun f cdv A outer s H E hr=>by as_aux_lemma=>
   have nd:=sc__law_told.nd;exact(zg (zq 4 jw nd) (zg (zz0 5 (fun _=>(zj (qt (zfu hr (zf 0) zax) (zj (zq 4 (ze uaf hr.rmd (zb (ze ua6 hr.rmd (zb (zf 1) (zb (zf 2) (zb (zf 3) (zb (kg T.uac.val) zd))))) zd)) nd)) (zj (qt (zfu hr (zf 0) zax) (zj (zq 4 (ze uaf hr.rmd (zb (ze ufs hr.rmd (zb (zf 1) (zb (zf 2) (zb (zf 3) (zb (kg T.uac.val) zd))))) zd)) nd)) (zj (zq 4 (ze uaf hr.rmd (zb (ze uaq hr.rmd (zb (zf 1) (zb (zf 2) (zb (zf 3) (zb zo (zb (kg T.uac.val) zd)))))) zd)) nd))))))) (fun _=>(zbh (zyg (zfu hr (zf 0) zax) (zbh (zm8 (zfb uaf (zic (y6 zah hr.rmd (zb (zf 1) (zb (zf 2) (zb (zf 3) (zb (kg T.uac.val) zd))))))))) (zbh (zyg (zfu hr (zf 0) zax) (zbh (zm8 (zfb uaf (zic (y6 zb1 hr.rmd (zb (zf 1) (zb (zf 2) (zb (zf 3) (zb (kg T.uac.val) zd))))))))) (zbh (zm8 (zfb uaf (zic (y6 xa hr.rmd (zb (zf 1) (zb (zf 2) (zb (zf 3) (zb zo (zb (kg T.uac.val) zd))))))))))))))) (fun _ _=>(zj (zq 4 (zr2 udh hr.rmd (zb (zf 5) zd)) nd))) nd T.up.cat) (zj (zp (zf 4))))))).frz
 have ufj:Cal P w K mg base 45 "has" zru:=(T.ugl.cal sc_has (fun _ _ _ _ _ _=>ls3 fun _ _ _=>rfl) (fun f cdv A outer s H E hr=>by as_aux_lemma=>
   have nd:=sc_has.nd;exact(zj (zp (ze uaj hr.rmd (zb (zf 0) (zb (ze uam hr.rmd (zb (zf 0) (zb (zf 1) (zb (zf 2) zd)))) (zb (zf 1) (zb (zf 2) zd)))))))))
 have ubi:Cal P w K mg base 47 "common" zbs:=(T.ue3.cal sc_common (fun _ _ _ _ _ _=>ls4 fun _ _ _ _=>rfl) (fun f cdv A outer s H E hr=>by as_aux_lemma=>
   have nd:=sc_common.nd;exact(zj (zp (ze uak hr.rmd (zb (zf 0) (zb (by exact zlr (ke (x:="thing") (N':=["before", "other"]) (fr:=[3,2]) (by decide +kernel) rfl rfl rfl rfl rfl) (zk5 (ze uae hr.rmd (zb (zf 1) zd))) (fun _ _ _ _=>.one (yf (ze ufj hr.rmd (zb (zf 2) (zb (zf 0) (zb (zf 1) zd)))))) (fun _ _ _ _=>(zf 0))) zd)))))))
 have uc3:Cal P w K mg base 47 "less" zg4:=(T.uf4.cal sc_less (fun _ _ _ _ _ _=>ls4 fun _ _ _ _=>rfl) (fun f cdv A outer s H E hr=>by as_aux_lemma=>
   have nd:=sc_less.nd;exact(zj (zp (ze uak hr.rmd (zb (zf 0) (zb (by exact zlr (ke (x:="thing") (N':=["before", "other"]) (fr:=[3,2]) (by decide +kernel) rfl rfl rfl rfl rfl) (zk5 (ze uae hr.rmd (zb (zf 1) zd))) (fun _ _ _ _=>.one (zev (yf (ze ufj hr.rmd (zb (zf 2) (zb (zf 0) (zb (zf 1) zd))))))) (fun _ _ _ _=>(zf 0))) zd)))))))
 have ubn:Cal P w K mg base 45 "place_of_alike" xu:=(T.ubj.cal sc_place_of_alike (fun _ _ _ _ _ _=>ls3 fun _ _ _=>rfl) (fun f cdv A outer s H E hr=>by as_aux_lemma=>
   have nd:=sc_place_of_alike.nd;exact(zg (zq 3 (ze uam hr.rmd (zb (zf 0) (zb (zf 1) (zb (zf 2) zd)))) nd) (zg (qt (zev (yf (ze uaj hr.rmd (zb (zf 0) (zb (zf 3) (zb (zf 1) (zb (zf 2) zd))))))) (zj zcw) zv) (zj (zp (zf 3)))))))
 have ufd:Cal P w K mg base 1 "sought" zct:=(T.uey.cal sc_sought (fun _ _ _ _ _ _=>ls1 fun _=>rfl) (fun f cdv A outer s H E hr=>by as_aux_lemma=>
   have nd:=sc_sought.nd;exact(zj (zp (xf (zb (zf 0) (zb jw zd)))))))
 have ua5:Cal P w K mg base 46 "value_of" yd:=(T.ud3.cal sc_value_of (fun _ _ _ _ _ _=>ls3 fun _ _ _=>rfl) (fun f cdv A outer s H E hr=>by as_aux_lemma=>
   have nd:=sc_value_of.nd;exact(zj (zp (zx (ze ugd hr.rmd (zb (zf 0) (zb (ze ubn hr.rmd (zb (zf 0) (zb (ze ufd hr.rmd (zb (zf 1) zd)) (zb (ze ubg hr.rmd (zb (zf 2) zd)) zd)))) zd))) (zy T.ufp))))))
 exact⟨T,⟨uao,uag,uar,uaw,ual,ubi,ua6,uc3,uak,uae,ua5,uaq⟩⟩
end Pg
open PySem PySem.W L2 F PySem.Spec PyProof.Rows
namespace PySem.W.Fast
def tw4610780741254150293:=()
def tw7194310480854983080:=()
def tw14292305723068524041:=()
def tw270253069106783311:=()
def tw213506179422976682:=()
def tw11371471328459342884:=()
def tw6527336803435447495:=()
def tw7039319122619714226:=()
def tw17573296221078943191:=()
def tw18194929997733520264:=()
def tw3257881211189777331:=()
def tw2628673124203315377:=()
def tw17764104274836730024:=()
def tw10459386846683165542:=()
def tw14542585206268575103:=()
def tw10532351898682619919:=()
def tw14168454780798614837:=()
def tw244317605038076730:=()
def tw11054951562385735451:=()
def tw15224832999631562356:=()
def tw4316893733322353849:=()
def tw4154142777920000763:=()
def tw8272780155267400904:=()
def tw11109966449529487529:=()
def tw9412669326819178352:=()
def tw5928158237290472215:=()
def tw340246074880532528:=()
def tw16752880950736129647:=()
def tw7638640599449977780:=()
def tw8578940190619043968:=()
def tw5443155318605060505:=()
def tw5456802447377531350:=()
def tw8635597103224271064:=()
def tw10018091475792779252:=()
def tw7480319319497618614:=()
def tw8090525160681640794:=()
def tw5996558301243860831:=()
def tw7622363375310928909:=()
def tw4503109018481473180:=()
def tw15328649602536149758:=()
def tw8098459658300950212:=()
def tw1775749623976586181:=()
def tw4459079434052922819:=()
def tw6733336284361761784:=()
def tw15762400071754239393:=()
def tw39646240624050031:=()
def tw12752636271621511770:=()
def tw9094746074433816392:=()
def tw15564840283342901822:=()
def tw18011920115780081192:=()
def tw13422844531172823116:=()
def tw6711620066667519442:=()
def tw4279591459360135055:=()
def tw15865735114433386242:=()
def tw15532695172089889446:=()
def tw16139619810003651091:=()
def tw4506188903702257321:=()
def tw16801723693949268802:=()
def tw11433892454239535984:=()
def tw6652218411700855485:=()
def tw4787537089965511316:=()
def tw10669642377790859221:=()
def tw6964756866780319977:=()
def tw16067427260806961872:=()
def tw2095276299985634499:=()
def tw14595754225854367261:=()
def tw13303905486924737285:=()
def tw12479076330481734752:=()
def tw2702842515623622240:=()
def tw15269393038611182609:=()
def tw2281780555737865786:=()
def tw17973547184524814860:=()
def tw1339228655653040667:=()
def tw17270438238988303441:=()
def tw2725606868140674923:=()
def tw3352841186765298662:=()
def tw13968026615775832277:=()
def tw13489135248550506327:=()
def tw4247775753386922689:=()
def tw1347048694024964943:=()
def tw6658601301908440788:=()
def tw3063141775154030262:=()
def tw3968757953929226691:=()
def tw13077356711368182878:=()
def tw7939268718927525564:=()
def tw6883520665570088411:=()
def tw13988318881771036359:=()
def tw2991215614893115769:=()
def tw7706076882745996748:=()
def tw1252726027824745781:=()
def tw4780436139774454598:=()
def tw17182673343411172706:=()
def tw10683635503963035765:=()
def tw7678579829020311828:=()
def tw17300313915374585319:=()
def tw6606419002323829960:=()
def tw17119596715916171323:=()
def tw10360531569647970711:=()
def tw14873009991308153716:=()
def tw2911031142823881859:=()
def tw3773792838630746613:=()
def tw5212759508492573713:=()
def tw7164234752790439077:=()
def tw6985823481139302018:=()
def tw16916112951926514189:=()
def tw14829578270760873285:=()
def tw17071285606791206277:=()
def tw17442525849674140725:=()
def tw15277068045421210964:=()
def tw12726569693976365032:=()
def tw192640473987824661:=()
def tw12804605478921240256:=()
def tw4993717829112378103:=()
def tw6162070136502705546:=()
def tw12912087132746081688:=()
def tw17766432304155464761:=()
def tw5257404035198396159:=()
def tw11360751307173832438:=()
def tw3791393145882989092:=()
def tw5720392344508125909:=()
def tw6969128624527766447:=()
def tw6998516024312967828:=()
def tw17706662964973816461:=()
def tw10343703269512588420:=()
def tw15604955840669159843:=()
def tw2716962767386156311:=()
def tw5923411823840281836:=()
def tw5872404060007155642:=()
def tw324368095539949623:=()
def tw16248774859817490051:=()
def tw11913989499604548943:=()
def tw934176703693751531:=()
def tw7899715207976266333:=()
def tw3726650805701142120:=()
def tw10876023172761914806:=()
def tw15835712904817684450:=()
def tw589443964639631855:=()
def tw17365660685038660723:=()
def tw10530380858188110809:=()
def tw9894935688406071996:=()
def tw16136993697667872228:=()
def tw11696625613601040570:=()
def tw5384157157035895459:=()
def tw10765883776209936066:=()
def tw13297585297859144180:=()
def tw18284970491863990643:=()
def tw2928528951429375225:=()
def tw12803420130743775960:=()
def tw15742081858646990088:=()
def tw17752114096855061792:=()
def tw3354423594171981954:=()
def tw5246767322268960196:=()
def tw10508448706347437962:=()
def tw9991461681517934877:=()
def tw17025257718934732912:=()
def tw1109420861761418196:=()
def tw8063628630060823214:=()
def tw5051514008778959833:=()
def tw3835466735328162432:=()
def tw7407234295432613092:=()
def tw17094683966054647844:=()
def tw10316592853665953725:=()
def tw15032102132517002260:=()
def tw18059857772966509419:=()
def tw10369835551268008254:=()
def tw11544341433705534343:=()
def tw4786577588154439136:=()
def tw1450219110738790473:=()
def tw1121073334957652537:=()
def tw14696515680935121323:=()
def tw13156525620055777600:=()
def tw11106782695360505989:=()
def tw12704476854328209513:=()
def tw15120808445936501164:=()
def tw6013551565169821617:=()
def tw8358034926520253788:=()
def tw3867995643404927914:=()
def tw13911274464279734741:=()
def tw5476873991667705620:=()
def tw16280189685911743922:=()
def tw6234944802695996872:=()
def tw12064865913592128781:=()
def tw18168354055915991942:=()
def tw4588761711821697316:=()
def tw14137730975580505071:=()
def tw5542354805298442157:=()
def tw10216723763378256007:=()
def tw9640210802938362385:=()
def tw2281364397157481713:=()
def tw1462683000853034129:=()
def tw13801701654304123202:=()
def tw16222459893933973323:=()
def tw15425053883818053395:=()
def tw14005548465119864500:=()
def tw14026148648958024015:=()
def tw14662618168924812437:=()
def tw4436548469992578587:=()
def tw17174947431941034003:=()
def tw12959811864815481443:=()
def tw3005086145784249781:=()
def tw7764664760395380043:=()
def tw4560355981979234171:=()
def tw12042070857673351893:=()
def tw462946597182432085:=()
def tw7910661143500060335:=()
def tw8330884040009199548:=()
def tw5806416645540573067:=()
def tw6291288664051652878:=()
def tw10725926775584240672:=()
def tw2291801142379574990:=()
def tw4706472094180372180:=()
def tw1201209947818374457:=()
def tw18443327460779338232:=()
def tw9066704032658277858:=()
def tw14018265914306811180:=()
def tw11296191597231264649:=()
def tw1828038041635415571:=()
def tw1931725795259508377:=()
def tw3425858535805252016:=()
def tw13646185233095359227:=()
def tw11226064192178302651:=()
def tw4278593376211272218:=()
def tw18081328625609556169:=()
def tw2210268846594863413:=()
def tw9507473039133148640:=()
def tw1419493847984614474:=()
def tw9726807552372082910:=()
def tw6944785019563992549:=()
def tw16631742682094693885:=()
def tw14298319981885020555:=()
def tw1274300108655506565:=()
def tw18246644234326611138:=()
def tw1911854237252887445:=()
def tw4780733546148293108:=()
def tw10242828239768516290:=()
def tw7099564547005841565:=()
def tw1196981683985351297:=()
def tw5959328365571167418:=()
def tw13131965582262432017:=()
def tw17432375715786942124:=()
def tw5657841361567065944:=()
def tw11562602801088328244:=()
def tw3395364304769528845:=()
def tw13065081518697976193:=()
def tw2216535973458808645:=()
def tw16088396055893494708:=()
def tw12105103953122255115:=()
def tw4864332397270712031:=()
def tw17141441750988588070:=()
def tw8562249619906028850:=()
def tw14035421119838270418:=()
def tw12050693109319090243:=()
def tw4326633636459699083:=()
def tw8121182199983477214:=()
def tw17686839866844683803:=()
def tw12153256142987908717:=()
def tw12045758713999054322:=()
def tw10377843110497673739:=()
def tw13500393303767520680:=()
def tw11493587390091422972:=()
def tw12328461481293180671:=()
def tw6571329648496196458:=()
def tw8802206547174003668:=()
def tw16336629135858408822:=()
def tw3482380002981874469:=()
def tw15732053608985987956:=()
def tw15187810628578086714:=()
def tw8975945601551868196:=()
def tw6936524155405798718:=()
def tw5066455103226794949:=()
def tw3662334324898984771:=()
def tw16311861056841330921:=()
def tw16965784093026463171:=()
def tw12858174518254143739:=()
def tw13442612013098495072:=()
def tw5761521489823196215:=()
def tw10320449879752292470:=()
def tw11808639209870333589:=()
def tw16768655751204079165:=()
def tw8367652183268549743:=()
def tw9708521476173343442:=()
def tw1095034137426164186:=()
def tw11356462797100030580:=()
def tw5079006691732011884:=()
def tw88031914439909654:=()
def tw15710802771440097123:=()
def tw11300660341997706259:=()
def tw7479317717121076342:=()
def tw1596186786417815948:=()
def tw1918023332143814243:=()
def tw6939955353365855259:=()
def tw18101255499392538262:=()
def tw10003360285613209967:=()
def tw10756576186380418460:=()
def tw15103105660968159007:=()
def tw16139262784132012871:=()
def tw5822473070010071163:=()
def tw7700306223334453080:=()
def tw6860190525286565087:=()
def tw11458909833501328714:=()
def tw17759001271513573777:=()
def tw7113178950316655808:=()
def tw12826427421764635377:=()
def tw2302870915194684325:=()
def tw9025178468354275621:=()
def tw16344509293953405733:=()
def tw17305238354214536104:=()
def tw16964357813107926944:=()
def tw3916743774590333989:=()
def tw1206584599557946392:=()
def tw12008494026162613076:=()
def tw13248435917868715724:=()
def tw10310338915992620962:=()
def tw4082324419035892332:=()
def tw16015246935881002817:=()
def tw13213335365366344694:=()
def tw16089911358381021273:=()
def tw7286122040394561677:=()
def tw10730049424507686524:=()
def tw11998520266127100670:=()
def tw15738965394717829100:=()
def tw4271518845957403817:=()
def tw11923155321745594848:=()
def tw909302300060456044:=()
def tw7584259213884740212:=()
def tw10065946820858895263:=()
def tw7304704897759108077:=()
def tw18319467906264384316:=()
def tw155900558082908250:=()
def tw3192776700510892698:=()
def tw10294910295848848011:=()
def tw10553390382479027039:=()
def tw7009356017654629948:=()
def tw4453446251174099425:=()
def tw1637332588469435421:=()
def tw3112777801355362495:=()
def tw3785355092942755184:=()
def tw14553946987917892448:=()
def tw16088673274879742505:=()
def tw17571141570422512930:=()
def tw5726137899625958020:=()
def tw5261930478002886919:=()
def tw2534401297802045868:=()
def tw7037186847116041851:=()
def tw6143513185276421508:=()
end PySem.W.Fast
set_option maxRecDepth 100000 in
set_option maxHeartbeats 0 in
theorem PySem.Challenge.cw_ownshelf_k26_sets_too_great_holds : PySem.Challenge.rw_ownshelf_k26_sets_too_great.Holds := by
 w_on;o_law;k_head;(case hw=>w_witness2)
 k_fill
 refine F.law_walkT (l:=PySem.Challenge.rw_ownshelf_k26_sets_too_great) (k:=51) (g:=Pg.g_law) (x:="_law_script") Pg.tabs rfl rfl ⟨rfl,by decide,by decide⟩ (by decide) (by decide) rfl Pg.law_ok ?F
 case F=>
   intro w mg fa h KX G hmg;have ucp:mg "ValueError"=none:=by refine' z7p KX G ?a_7;k_is
   have ugg:mg "abs"=none:=by refine' z7p KX G ?a_8;k_is
   have ucf:mg "isinstance"=none:=by refine' z7p KX G ?a_9;k_is
   have uf9:mg "len"=none:=by refine' z7p KX G ?a_10;k_is
   have uf2:mg "list"=none:=by refine' z7p KX G ?a_11;k_is
   have ugc:mg "max"=none:=by refine' z7p KX G ?a_12;k_is
   have ue5:mg "range"=none:=by refine' z7p KX G ?a_13;k_is
   have ued:mg "sorted"=none:=by refine' z7p KX G ?a_14;k_is
   have uex:∃t,mg "ABOUT"=some (.int 1 t):=by refine' F.has_int KX G ?a_15;(case a_15=>k_is)
   have ue0:∃t,mg "AHEAD"=some (.int 0 t):=by refine' F.has_int KX G ?a_16;(case a_16=>k_is)
   have ufz:∃t,mg "BACK"=some (.int 8 t):=by refine' F.has_int KX G ?a_17;(case a_17=>k_is)
   have uei:∃t,mg "BEHIND"=some (.int 2 t):=by refine' F.has_int KX G ?a_18;(case a_18=>k_is)
   have ud9:∃t,mg "HEIGHT"=some (.int 6 t):=by refine' F.has_int KX G ?a_19;(case a_19=>k_is)
   have uf5:∃t,mg "KEY"=some (.int 0 t):=by refine' F.has_int KX G ?a_20;(case a_20=>k_is)
   have ufu:∃t,mg "LEFT"=some (.int 2 t):=by refine' F.has_int KX G ?a_21;(case a_21=>k_is)
   have uec:∃t,mg "MIDDLE"=some (.int 1 t):=by refine' F.has_int KX G ?a_22;(case a_22=>k_is)
   have ucc:∃t,mg "MOST_THINGS"=some (.int 2000 t):=by refine' F.has_int KX G ?a_23;(case a_23=>k_is)
   have ue4:∃t,mg "RIGHT"=some (.int 4 t):=by refine' F.has_int KX G ?a_24;(case a_24=>k_is)
   have uf1:∃t,mg "SIZE"=some (.int 5 t):=by refine' F.has_int KX G ?a_25;(case a_25=>k_is)
   have ue8:∃t,mg "THING"=some (.int 3 t):=by refine' F.has_int KX G ?a_26;(case a_26=>k_is)
   have uff:∃t,mg "TOTAL"=some (.int 7 t):=by refine' F.has_int KX G ?a_27;(case a_27=>k_is)
   have ueg:∃t,mg "TURNED"=some (.int 3 t):=by refine' F.has_int KX G ?a_28;(case a_28=>k_is)
   have ue1:∃t,mg "VALUE"=some (.int 1 t):=by refine' F.has_int KX G ?a_29;(case a_29=>k_is)
   have ud4:∃f,mg "Changed"=some (.ref f):=by refine' F.has_val KX G ?a_30;(case a_30=>k_is)
   have ucx:∃f,mg "NoBalance"=some (.ref f):=by refine' F.has_val KX G ?a_31;(case a_31=>k_is)
   have uet:∃f,mg "NoMore"=some (.ref f):=by refine' F.has_val KX G ?a_32;(case a_32=>k_is)
   have uen:∃f,mg "NoName"=some (.ref f):=by refine' F.has_val KX G ?a_33;(case a_33=>k_is)
   have udm:∃f,mg "NoNumber"=some (.ref f):=by refine' F.has_val KX G ?a_34;(case a_34=>k_is)
   have ud0:∃f,mg "NoPlace"=some (.ref f):=by refine' F.has_val KX G ?a_35;(case a_35=>k_is)
   have ue6:∃f,mg "NoRow"=some (.ref f):=by refine' F.has_val KX G ?a_36;(case a_36=>k_is)
   have ufg:∃f,mg "NoSum"=some (.ref f):=by refine' F.has_val KX G ?a_37;(case a_37=>k_is)
   have udy:∃f,mg "NoThing"=some (.ref f):=by refine' F.has_val KX G ?a_38;(case a_38=>k_is)
   have ufa:∃f,mg "NoWay"=some (.ref f):=by refine' F.has_val KX G ?a_39;(case a_39=>k_is)
   have ud8:∃f,mg "TooMany"=some (.ref f):=by refine' F.has_val KX G ?a_40;(case a_40=>k_is)
   have udz:F.ExcCls (L2.KOf KX) mg "TooMany":=by refine' F.has_exc KX G ?a_41 ?q_41;(case a_41=>k_is);(case q_41=>k_exc)
   have he_TooMany:F.ExcI (L2.KOf KX) mg "TooMany":=by refine' F.has_ei KX G ?a_42 ?h1_42 ?h2_42 ?h3_42 ?h4_42 ?h5_42 ?h6_42 ?h7_42 ?h8_42 ?h9_42;(case a_42=>k_is);(case h1_42=>k_is);(case h2_42=>k_is);(case h3_42=>k_is);(case h4_42=>k_is);(case h5_42=>k_is);(case h6_42=>k_is);(case h7_42=>k_is);(case h8_42=>k_is);(case h9_42=>kit_is)
   have hc_TooMany:F.Cat (L2.KOf KX) mg "TooMany" "ShelfError":=by refine' F.has_cat KX G ?a_43 ?b_43 ?h1_43 ?h2_43 ?h3_43 ?h4_43;(case a_43=>k_is);(case b_43=>k_is);(case h1_43=>k_is);(case h2_43=>k_is);(case h3_43=>k_is);(case h4_43=>k_is)
   have hq_TooMany_Changed:F.IsF (L2.KOf KX) mg "TooMany" "Changed" false:=by refine' F.has_is KX G ?a_44 ?b_44 ?q_44;(case a_44=>k_is);(case b_44=>k_is);(case q_44=>kit_is)
   have hq_TooMany_NoBalance:F.IsF (L2.KOf KX) mg "TooMany" "NoBalance" false:=by refine' F.has_is KX G ?a_45 ?b_45 ?q_45;(case a_45=>k_is);(case b_45=>k_is);(case q_45=>kit_is)
   have hq_TooMany_NoMore:F.IsF (L2.KOf KX) mg "TooMany" "NoMore" false:=by refine' F.has_is KX G ?a_46 ?b_46 ?q_46;(case a_46=>k_is);(case b_46=>k_is);(case q_46=>kit_is)
   have hq_TooMany_NoName:F.IsF (L2.KOf KX) mg "TooMany" "NoName" false:=by refine' F.has_is KX G ?a_47 ?b_47 ?q_47;(case a_47=>k_is);(case b_47=>k_is);(case q_47=>kit_is)
   have hq_TooMany_NoNumber:F.IsF (L2.KOf KX) mg "TooMany" "NoNumber" false:=by refine' F.has_is KX G ?a_48 ?b_48 ?q_48;(case a_48=>k_is);(case b_48=>k_is);(case q_48=>kit_is)
   have hq_TooMany_NoPlace:F.IsF (L2.KOf KX) mg "TooMany" "NoPlace" false:=by refine' F.has_is KX G ?a_49 ?b_49 ?q_49;(case a_49=>k_is);(case b_49=>k_is);(case q_49=>kit_is)
   have hq_TooMany_NoRow:F.IsF (L2.KOf KX) mg "TooMany" "NoRow" false:=by refine' F.has_is KX G ?a_50 ?b_50 ?q_50;(case a_50=>k_is);(case b_50=>k_is);(case q_50=>kit_is)
   have hq_TooMany_NoSum:F.IsF (L2.KOf KX) mg "TooMany" "NoSum" false:=by refine' F.has_is KX G ?a_51 ?b_51 ?q_51;(case a_51=>k_is);(case b_51=>k_is);(case q_51=>kit_is)
   have hq_TooMany_NoThing:F.IsF (L2.KOf KX) mg "TooMany" "NoThing" false:=by refine' F.has_is KX G ?a_52 ?b_52 ?q_52;(case a_52=>k_is);(case b_52=>k_is);(case q_52=>kit_is)
   have hq_TooMany_NoWay:F.IsF (L2.KOf KX) mg "TooMany" "NoWay" false:=by refine' F.has_is KX G ?a_53 ?b_53 ?q_53;(case a_53=>k_is);(case b_53=>k_is);(case q_53=>kit_is)
   have hq_TooMany_TooMany:F.IsF (L2.KOf KX) mg "TooMany" "TooMany" true:=by refine' F.has_is KX G ?a_54 ?b_54 ?q_54;(case a_54=>k_is);(case b_54=>k_is);(case q_54=>kit_is)
   have hup:F.UpOk (L2.KOf KX) mg Pg.up:=⟨(F.all_cons (hc_TooMany) F.all_nil),(F.all_cons (he_TooMany) F.all_nil),(F.all_cons ((F.all_cons (F.is_of hq_TooMany_Changed) (F.all_cons (F.is_of hq_TooMany_NoBalance) (F.all_cons (F.is_of hq_TooMany_NoMore) (F.all_cons (F.is_of hq_TooMany_NoName) (F.all_cons (F.is_of hq_TooMany_NoNumber) (F.all_cons (F.is_of hq_TooMany_NoPlace) (F.all_cons (F.is_of hq_TooMany_NoRow) (F.all_cons (F.is_of hq_TooMany_NoSum) (F.all_cons (F.is_of hq_TooMany_NoThing) (F.all_cons (F.is_of hq_TooMany_NoWay) (F.all_cons (F.is_of hq_TooMany_TooMany) F.all_nil)))))))))))) F.all_nil)⟩
   have ub0:F.Fld (L2.KOf KX) mg "Wood" "adding":=by refine' F.has_fld KX G ?aC_56 (F.has_cls KX G ?aC_56 ?pg_56 ?hd_56 ?po_56 ?sa_56) ?n_56;(case aC_56=>k_is);(case pg_56=>k_is);(case hd_56=>k_is);(case po_56=>k_is);(case sa_56=>k_is);(case n_56=>k_is)
   have ubc:F.Fld (L2.KOf KX) mg "Wood" "nodes_made":=by refine' F.has_fld KX G ?aC_57 (F.has_cls KX G ?aC_57 ?pg_57 ?hd_57 ?po_57 ?sa_57) ?n_57;(case aC_57=>k_is);(case pg_57=>k_is);(case hd_57=>k_is);(case po_57=>k_is);(case sa_57=>k_is);(case n_57=>k_is)
   have ubl:F.HasMk (L2.KOf KX) mg "Wood" "Wood.__init__" Pg.s_Wood___init__ 1:=by refine' F.has_mk1 KX G ?aC_58 ?mk_58 ?kc_58 ?a_58 ?i_58 ?l_58 ?c_58 ?k_58 ?t_58;(case aC_58=>k_is);(case mk_58=>k_is);(case kc_58=>k_is);(case a_58=>k_is);(case i_58=>k_is);(case l_58=>k_is);(case c_58=>k_is);(case k_58=>k_is);(case t_58=>k_is)
   have uc2:F.HasDef (L2.KOf KX) mg "_law_cell" Pg.s__law_cell 0:=by refine' F.has_def KX G ?a_59 ?l_59 ?c_59 ?k_59;(case a_59=>k_is);(case l_59=>k_is);(case c_59=>k_is);(case k_59=>k_is)
   have udg:F.HasDef (L2.KOf KX) mg "_law_due" Pg.s__law_due 0:=by refine' F.has_def KX G ?a_60 ?l_60 ?c_60 ?k_60;(case a_60=>k_is);(case l_60=>k_is);(case c_60=>k_is);(case k_60=>k_is)
   have uca:F.HasDef (L2.KOf KX) mg "_law_others" Pg.s__law_others 0:=by refine' F.has_def KX G ?a_61 ?l_61 ?c_61 ?k_61;(case a_61=>k_is);(case l_61=>k_is);(case c_61=>k_is);(case k_61=>k_is)
   have uc4:F.HasDef (L2.KOf KX) mg "_law_kind" Pg.s__law_kind 0:=by refine' F.has_def KX G ?a_62 ?l_62 ?c_62 ?k_62;(case a_62=>k_is);(case l_62=>k_is);(case c_62=>k_is);(case k_62=>k_is)
   have uc6:F.HasDef (L2.KOf KX) mg "_law_less" Pg.s__law_less 0:=by refine' F.has_def KX G ?a_63 ?l_63 ?c_63 ?k_63;(case a_63=>k_is);(case l_63=>k_is);(case c_63=>k_is);(case k_63=>k_is)
   have ub8:F.HasDef (L2.KOf KX) mg "check_place" Pg.s_check_place 0:=by refine' F.has_def KX G ?a_64 ?l_64 ?c_64 ?k_64;(case a_64=>k_is);(case l_64=>k_is);(case c_64=>k_is);(case k_64=>k_is)
   have ufx:F.HasDef (L2.KOf KX) mg "size" Pg.s_size 0:=by refine' F.has_def KX G ?a_65 ?l_65 ?c_65 ?k_65;(case a_65=>k_is);(case l_65=>k_is);(case c_65=>k_is);(case k_65=>k_is)
   have ufv:F.HasDef (L2.KOf KX) mg "seen" Pg.s_seen 0:=by refine' F.has_def KX G ?a_66 ?l_66 ?c_66 ?k_66;(case a_66=>k_is);(case l_66=>k_is);(case c_66=>k_is);(case k_66=>k_is)
   have udi:F.HasDef (L2.KOf KX) mg "thing_at" Pg.s_thing_at 0:=by refine' F.has_def KX G ?a_67 ?l_67 ?c_67 ?k_67;(case a_67=>k_is);(case l_67=>k_is);(case c_67=>k_is);(case k_67=>k_is)
   have ugi:F.HasDef (L2.KOf KX) mg "at" Pg.s_at 0:=by refine' F.has_def KX G ?a_68 ?l_68 ?c_68 ?k_68;(case a_68=>k_is);(case l_68=>k_is);(case c_68=>k_is);(case k_68=>k_is)
   have ub6:F.HasDef (L2.KOf KX) mg "is_alike_at" Pg.s_is_alike_at 0:=by refine' F.has_def KX G ?a_69 ?l_69 ?c_69 ?k_69;(case a_69=>k_is);(case l_69=>k_is);(case c_69=>k_is);(case k_69=>k_is)
   have ubu:F.HasDef (L2.KOf KX) mg "count_before" Pg.s_count_before 0:=by refine' F.has_def KX G ?a_70 ?l_70 ?c_70 ?k_70;(case a_70=>k_is);(case l_70=>k_is);(case c_70=>k_is);(case k_70=>k_is)
   have udo:F.HasDef (L2.KOf KX) mg "place_of" Pg.s_place_of 0:=by refine' F.has_def KX G ?a_71 ?l_71 ?c_71 ?k_71;(case a_71=>k_is);(case l_71=>k_is);(case c_71=>k_is);(case k_71=>k_is)
   have ucs:F.HasDef (L2.KOf KX) mg "check_room" Pg.s_check_room 0:=by refine' F.has_def KX G ?a_72 ?l_72 ?c_72 ?k_72;(case a_72=>k_is);(case l_72=>k_is);(case c_72=>k_is);(case k_72=>k_is)
   have ubk:F.HasMth (L2.KOf KX) mg "Wood" "numbered" "Wood.numbered" Pg.s_Wood_numbered:=by refine' F.has_mth KX G ?aC_73 (F.has_cls KX G ?aC_73 ?pg_73 ?hd_73 ?po_73 ?sa_73) ?a_73 ?i_73 ?l_73 ?c_73 ?k_73;(case aC_73=>k_is);(case pg_73=>k_is);(case hd_73=>k_is);(case po_73=>k_is);(case sa_73=>k_is);(case a_73=>k_is);(case i_73=>k_is);(case l_73=>k_is);(case c_73=>k_is);(case k_73=>k_is)
   have uel:F.HasDef (L2.KOf KX) mg "height" Pg.s_height 0:=by refine' F.has_def KX G ?a_74 ?l_74 ?c_74 ?k_74;(case a_74=>k_is);(case l_74=>k_is);(case c_74=>k_is);(case k_74=>k_is)
   have ubp:F.HasDef (L2.KOf KX) mg "height_above" Pg.s_height_above 0:=by refine' F.has_def KX G ?a_75 ?l_75 ?c_75 ?k_75;(case a_75=>k_is);(case l_75=>k_is);(case c_75=>k_is);(case k_75=>k_is)
   have ucr:F.HasDef (L2.KOf KX) mg "in_balance" Pg.s_in_balance 0:=by refine' F.has_def KX G ?a_76 ?l_76 ?c_76 ?k_76;(case a_76=>k_is);(case l_76=>k_is);(case c_76=>k_is);(case k_76=>k_is)
   have ucm:F.HasDef (L2.KOf KX) mg "size_above" Pg.s_size_above 0:=by refine' F.has_def KX G ?a_77 ?l_77 ?c_77 ?k_77;(case a_77=>k_is);(case l_77=>k_is);(case c_77=>k_is);(case k_77=>k_is)
   have ufr:F.HasDef (L2.KOf KX) mg "back" Pg.s_back 0:=by refine' F.has_def KX G ?a_78 ?l_78 ?c_78 ?k_78;(case a_78=>k_is);(case l_78=>k_is);(case c_78=>k_is);(case k_78=>k_is)
   have ubr:F.HasDef (L2.KOf KX) mg "backward_sum" Pg.s_backward_sum 0:=by refine' F.has_def KX G ?a_79 ?l_79 ?c_79 ?k_79;(case a_79=>k_is);(case l_79=>k_is);(case c_79=>k_is);(case k_79=>k_is)
   have ufh:F.HasDef (L2.KOf KX) mg "total" Pg.s_total 0:=by refine' F.has_def KX G ?a_80 ?l_80 ?c_80 ?k_80;(case a_80=>k_is);(case l_80=>k_is);(case c_80=>k_is);(case k_80=>k_is)
   have uco:F.HasDef (L2.KOf KX) mg "onward_sum" Pg.s_onward_sum 0:=by refine' F.has_def KX G ?a_81 ?l_81 ?c_81 ?k_81;(case a_81=>k_is);(case l_81=>k_is);(case c_81=>k_is);(case k_81=>k_is)
   have uck:F.HasDef (L2.KOf KX) mg "sums_above" Pg.s_sums_above 0:=by refine' F.has_def KX G ?a_82 ?l_82 ?c_82 ?k_82;(case a_82=>k_is);(case l_82=>k_is);(case c_82=>k_is);(case k_82=>k_is)
   have ucy:F.HasMth (L2.KOf KX) mg "Wood" "node" "Wood.node" Pg.s_Wood_node:=by refine' F.has_mth KX G ?aC_83 (F.has_cls KX G ?aC_83 ?pg_83 ?hd_83 ?po_83 ?sa_83) ?a_83 ?i_83 ?l_83 ?c_83 ?k_83;(case aC_83=>k_is);(case pg_83=>k_is);(case hd_83=>k_is);(case po_83=>k_is);(case sa_83=>k_is);(case a_83=>k_is);(case i_83=>k_is);(case l_83=>k_is);(case c_83=>k_is);(case k_83=>k_is)
   have ub9:F.HasMth (L2.KOf KX) mg "Wood" "turned" "Wood.turned" Pg.s_Wood_turned:=by refine' F.has_mth KX G ?aC_84 (F.has_cls KX G ?aC_84 ?pg_84 ?hd_84 ?po_84 ?sa_84) ?a_84 ?i_84 ?l_84 ?c_84 ?k_84;(case aC_84=>k_is);(case pg_84=>k_is);(case hd_84=>k_is);(case po_84=>k_is);(case sa_84=>k_is);(case a_84=>k_is);(case i_84=>k_is);(case l_84=>k_is);(case c_84=>k_is);(case k_84=>k_is)
   have ufe:F.HasDef (L2.KOf KX) mg "parts" Pg.s_parts 0:=by refine' F.has_def KX G ?a_85 ?l_85 ?c_85 ?k_85;(case a_85=>k_is);(case l_85=>k_is);(case c_85=>k_is);(case k_85=>k_is)
   have ub4:F.HasDef (L2.KOf KX) mg "lifted_left" Pg.s_lifted_left 0:=by refine' F.has_def KX G ?a_86 ?l_86 ?c_86 ?k_86;(case a_86=>k_is);(case l_86=>k_is);(case c_86=>k_is);(case k_86=>k_is)
   have ubt:F.HasDef (L2.KOf KX) mg "lifted_right" Pg.s_lifted_right 0:=by refine' F.has_def KX G ?a_87 ?l_87 ?c_87 ?k_87;(case a_87=>k_is);(case l_87=>k_is);(case c_87=>k_is);(case k_87=>k_is)
   have udj:F.HasDef (L2.KOf KX) mg "balanced" Pg.s_balanced 0:=by refine' F.has_def KX G ?a_88 ?l_88 ?c_88 ?k_88;(case a_88=>k_is);(case l_88=>k_is);(case c_88=>k_is);(case k_88=>k_is)
   have uem:F.HasDef (L2.KOf KX) mg "put_in" Pg.s_put_in 0:=by refine' F.has_def KX G ?a_89 ?l_89 ?c_89 ?k_89;(case a_89=>k_is);(case l_89=>k_is);(case c_89=>k_is);(case k_89=>k_is)
   have uf6:F.HasDef (L2.KOf KX) mg "put" Pg.s_put 0:=by refine' F.has_def KX G ?a_90 ?l_90 ?c_90 ?k_90;(case a_90=>k_is);(case l_90=>k_is);(case c_90=>k_is);(case k_90=>k_is)
   have ue9:F.HasDef (L2.KOf KX) mg "added" Pg.s_added 0:=by refine' F.has_def KX G ?a_91 ?l_91 ?c_91 ?k_91;(case a_91=>k_is);(case l_91=>k_is);(case c_91=>k_is);(case k_91=>k_is)
   have ue2:F.HasDef (L2.KOf KX) mg "built" Pg.s_built 0:=by refine' F.has_def KX G ?a_92 ?l_92 ?c_92 ?k_92;(case a_92=>k_is);(case l_92=>k_is);(case c_92=>k_is);(case k_92=>k_is)
   have ud5:F.HasDef (L2.KOf KX) mg "make_of" Pg.s_make_of 0:=by refine' F.has_def KX G ?a_93 ?l_93 ?c_93 ?k_93;(case a_93=>k_is);(case l_93=>k_is);(case c_93=>k_is);(case k_93=>k_is)
   have ues:F.HasDef (L2.KOf KX) mg "merged" Pg.s_merged 0:=by refine' F.has_def KX G ?a_94 ?l_94 ?c_94 ?k_94;(case a_94=>k_is);(case l_94=>k_is);(case c_94=>k_is);(case k_94=>k_is)
   have ueo:F.HasDef (L2.KOf KX) mg "gather" Pg.s_gather 0:=by refine' F.has_def KX G ?a_95 ?l_95 ?c_95 ?k_95;(case a_95=>k_is);(case l_95=>k_is);(case c_95=>k_is);(case k_95=>k_is)
   have uc0:F.HasDef (L2.KOf KX) mg "things_of" Pg.s_things_of 0:=by refine' F.has_def KX G ?a_96 ?l_96 ?c_96 ?k_96;(case a_96=>k_is);(case l_96=>k_is);(case c_96=>k_is);(case k_96=>k_is)
   have uer:F.HasDef (L2.KOf KX) mg "either" Pg.s_either 0:=by refine' F.has_def KX G ?a_97 ?l_97 ?c_97 ?k_97;(case a_97=>k_is);(case l_97=>k_is);(case c_97=>k_is);(case k_97=>k_is)
   have ueb:F.HasDef (L2.KOf KX) mg "by_key" Pg.s_by_key 0:=by refine' F.has_def KX G ?a_98 ?l_98 ?c_98 ?k_98;(case a_98=>k_is);(case l_98=>k_is);(case c_98=>k_is);(case k_98=>k_is)
   have uev:F.HasDef (L2.KOf KX) mg "given" Pg.s_given 0:=by refine' F.has_def KX G ?a_99 ?l_99 ?c_99 ?k_99;(case a_99=>k_is);(case l_99=>k_is);(case c_99=>k_is);(case k_99=>k_is)
   have ud1:F.HasDef (L2.KOf KX) mg "swapped" Pg.s_swapped 0:=by refine' F.has_def KX G ?a_100 ?l_100 ?c_100 ?k_100;(case a_100=>k_is);(case l_100=>k_is);(case c_100=>k_is);(case k_100=>k_is)
   have ucj:F.HasDef (L2.KOf KX) mg "with_value" Pg.s_with_value 0:=by refine' F.has_def KX G ?a_101 ?l_101 ?c_101 ?k_101;(case a_101=>k_is);(case l_101=>k_is);(case c_101=>k_is);(case k_101=>k_is)
   have udb:F.HasDef (L2.KOf KX) mg "_law_told" Pg.s__law_told 0:=by refine' F.has_def KX G ?a_102 ?l_102 ?c_102 ?k_102;(case a_102=>k_is);(case l_102=>k_is);(case c_102=>k_is);(case k_102=>k_is)
   have ugf:F.HasDef (L2.KOf KX) mg "has" Pg.s_has 0:=by refine' F.has_def KX G ?a_103 ?l_103 ?c_103 ?k_103;(case a_103=>k_is);(case l_103=>k_is);(case c_103=>k_is);(case k_103=>k_is)
   have ueu:F.HasDef (L2.KOf KX) mg "common" Pg.s_common 0:=by refine' F.has_def KX G ?a_104 ?l_104 ?c_104 ?k_104;(case a_104=>k_is);(case l_104=>k_is);(case c_104=>k_is);(case k_104=>k_is)
   have uft:F.HasDef (L2.KOf KX) mg "less" Pg.s_less 0:=by refine' F.has_def KX G ?a_105 ?l_105 ?c_105 ?k_105;(case a_105=>k_is);(case l_105=>k_is);(case c_105=>k_is);(case k_105=>k_is)
   have ubf:F.HasDef (L2.KOf KX) mg "place_of_alike" Pg.s_place_of_alike 0:=by refine' F.has_def KX G ?a_106 ?l_106 ?c_106 ?k_106;(case a_106=>k_is);(case l_106=>k_is);(case c_106=>k_is);(case k_106=>k_is)
   have uef:F.HasDef (L2.KOf KX) mg "sought" Pg.s_sought 0:=by refine' F.has_def KX G ?a_107 ?l_107 ?c_107 ?k_107;(case a_107=>k_is);(case l_107=>k_is);(case c_107=>k_is);(case k_107=>k_is)
   have udr:F.HasDef (L2.KOf KX) mg "value_of" Pg.s_value_of 0:=by refine' F.has_def KX G ?a_108 ?l_108 ?c_108 ?k_108;(case a_108=>k_is);(case l_108=>k_is);(case c_108=>k_is);(case k_108=>k_is)
   have uej:F.HasDef (L2.KOf KX) mg "law" Pg.s_law 0:=by refine' F.has_def KX G ?a_109 ?l_109 ?c_109 ?k_109;(case a_109=>k_is);(case l_109=>k_is);(case c_109=>k_is);(case k_109=>k_is)
   obtain⟨fa',fd,hm,hb,hF⟩:=Pg.law_all (P:=(PySem.Challenge.rw_ownshelf_k26_sets_too_great).prog) (w:=w) (fun base hB=>⟨ucp,ugg,ucf,uf9,uf2,ugc,ue5,ued,uex,ue0,ufz,uei,ud9,uf5,ufu,uec,ucc,ue4,uf1,ue8,uff,ueg,ue1,ub0,ubc,ud4,ucx,uet,uen,udm,ud0,ue6,ufg,udy,ufa,ud8,udz,hup,hB,ubl,uc2,udg,uca,uc4,uc6,ub8,ufx,ufv,udi,ugi,ub6,ubu,udo,ucs,ubk,uel,ubp,ucr,ucm,ufr,ubr,ufh,uco,uck,ucy,ub9,ufe,ub4,ubt,udj,uem,uf6,ue9,ue2,ud5,ues,ueo,uc0,uer,ueb,uev,ud1,ucj,udb,ugf,ueu,uft,ubf,uef,udr,uej⟩) uej;have e:=hmg.symm.trans hm;cases e;refine⟨fun i p Q e1 e2=>?_,fd,hb,fun base _ _ hB=>hF base hB⟩
   match i,e1,e2 with
   | 0,e1,e2=>
     cases e1;cases e2;refine' F.has_tab (st:=Pg.s_by_key) KX G ?ta0_111 ?tl0_111 ?tz0_111;(case ta0_111=>k_is);(case tl0_111=>k_is);(case tz0_111=>kernel_rfl)
   |i+1,e1,_=>cases e1
