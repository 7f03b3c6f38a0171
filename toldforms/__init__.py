"""Numbers and dates by told forms: read, written, converted."""
