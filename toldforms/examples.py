"""Examples, and the pairs of forms that fit them."""

MOST_EXAMPLES = 10
LONGEST_TEXT = 40
FIRST_SIGN = 32
LAST_SIGN = 126


def may_be_example(text):
    if len(text) > LONGEST_TEXT:
        return False
    return all([FIRST_SIGN <= sign <= LAST_SIGN for sign in text])


# An example, kept as what its two texts are read as in each form (None where they aren't read).
class Example:
    def __init__(self, forms, source, target):
        self.source_values = [form.value_read(source) for form in forms]
        self.target_values = [form.value_read(target) for form in forms]


# For each tuple of values, one for each example, the forms in which the outputs are read as these.
def forms_by_targets(examples, form_count):
    found = {}
    for number in range(form_count):
        values = tuple([example.target_values[number] for example in examples])
        found.setdefault(values, []).append(number)
    return found


# For each form, in order, the forms with which it makes a pair that fits, in order.
def fitting_targets(examples, form_count):
    # A text is what a value is written as just if it's read as this value, so equal values are all that is asked.
    by_targets = forms_by_targets(examples, form_count)
    fitting = []
    for source in range(form_count):
        values = tuple([example.source_values[source] for example in examples])
        is_read = all([value is not None for value in values])
        fitting.append(by_targets.get(values, []) if is_read else [])
    return fitting


def fitting_pairs(examples, form_count):
    pairs = []
    for source, targets in enumerate(fitting_targets(examples, form_count)):
        pairs.extend([(source, target) for target in targets])
    return pairs
