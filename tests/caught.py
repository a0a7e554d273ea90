"""Hold an error against its class and its attributes."""


def check_raises(test, kind, attributes, call, *arguments, **more):
    """The call raises just this class of error, with these attributes; the error is returned."""
    with test.assertRaises(kind) as caught:
        call(*arguments, **more)
    test.assertIs(type(caught.exception), kind)
    for name, value in attributes.items():
        test.assertEqual(getattr(caught.exception, name), value)
        test.assertIs(type(getattr(caught.exception, name)), type(value))
    return caught.exception


def state(record):
    """What a list of trials tells of itself, the next number included."""
    probe = record.copy()
    kept = probe.trials()
    if len(kept) == 60:
        probe.retract(kept[0][0])
    makes = probe.makes
    return makes, kept, record.trial_count, probe.note("sits", makes[0], makes[0]) if makes else None
